import Derived.Test.YtbkmgoffiigdbabGreatDoorWNF
namespace Go.Proofs.YtbkmgoffiigdbabGreatDoor
open Go.RowKit
set_option maxHeartbeats 2000000
def G7 (st:Int) (w:World) (e:Ending) (w':World):Prop:=e=.returned (.int .i64 st)∧Below w.heap.size w w'
theorem pA (x y:Int) (w:World):Calls Tryz.prog 207 #[.int .i64 x,.int .i64 y] w fun e w'=>e=.returned (.agg #[.int .u8 1,.int .i64 (wrap64 (x+y))])∧∃o o',w'=(w.alloc o).alloc o':=by
 go_enter Tryz.func207,Tryz.ntmps207;go_wp2_with (go_at_call 152;refine (N4 _ _).mono ?_;rintro e w' ⟨rfl,o,rfl⟩)
 exact bodyPost_ret (v:=.agg #[.int .u8 1,.int .i64 (wrap64 (x+y))]) (by simp [results,Tryz.results207,go_sem]) rfl ⟨rfl,_,_,rfl⟩
theorem a2l {own:Own} {mb:Nat} {g:PgR} {R:McR} {fs:List FrR} {f:FrR} {rest:List Val} {va:Option Addr} {sb:Nat} {w:World} {x y:Int} (h:C9 w own mb g R fs f rest [(1,x),(1,y)] va sb) (vc:Nat) :
  Calls Tryz.prog 206 #[.pointer (some ⟨mb,0,none⟩),.slice va 2 vc,.func (.func 207) #[] #[]] w fun e w'=>D0 own mb g R fs f (f.pc+1) (rest++[(1,wrap64 (x+y))]) (.int .i64 0) w e w':=by
 obtain⟨o,rfl,hsb,c0,c1,c2,c3⟩:=h.two;simp only at c0 c1 c2 c3;have HH:=hid h;clear h;go_enter Tryz.func206,Tryz.ntmps206;go_wp2_with (first | (go_at_call 140;refine (D4 _ _ _).mono ?_;rintro e w' ⟨rfl,o4,rfl⟩) | (go_at_call 207;refine (pA _ _ _).mono ?_;rintro e w' ⟨rfl,o1,o2,rfl⟩))
 go_region_with (first | (go_at_call 205;refine (HH.out.answer P0 vc _ [(1,wrap64 (x+y))] (J6 HH.out.m P9 (by first | exact D8 Q9 | exact O5 Q9 | exact T2 Q9)) Q9 2 rfl).mono ?_;rintro e w' ⟨own',sv',rfl,hm,ht⟩) | (first | (go_at_call 140;refine (D4 _ _ _).mono ?_;rintro e w' ⟨rfl,o4,rfl⟩) | (go_at_call 207;refine (pA _ _ _).mono ?_;rintro e w' ⟨rfl,o1,o2,rfl⟩)))
 all_goals go_wp2_with fail
 all_goals go_ret
 all_goals exact ⟨own',sv',rfl,hm,ht⟩
theorem sK {own:Own} {mb:Nat} {g:PgR} {R:McR} {fs:List FrR} {f:FrR} {rest:List Val} {va:Option Addr} {sb:Nat} {w:World} {x y:Val} (h:C9 w own mb g R fs f rest [x,y] va sb) (hk:¬(x.1=1∧y.1=1)) (vc:Nat) :
  Calls Tryz.prog 206 #[.pointer (some ⟨mb,0,none⟩),.slice va 2 vc,.func (.func 207) #[] #[]] w fun e w'=>G7 2 w e w':=by
 obtain⟨o,rfl,hsb,c0,c1,c2,c3⟩:=h.two;obtain⟨x1,x2⟩:=x;obtain⟨y1,y2⟩:=y;simp only at c0 c1 c2 c3 hk;clear h
 cases h1:(x1 == 1)
 ·clear hk
  go_enter Tryz.func206,Tryz.ntmps206;go_wp2_with (first | (go_at_call 140;refine (D4 _ _ _).mono ?_;rintro e w' ⟨rfl,o4,rfl⟩) | (go_at_call 207;refine (pA _ _ _).mono ?_;rintro e w' ⟨rfl,o1,o2,rfl⟩))
  go_ret;exact⟨rfl,P0⟩
 ·have h2:(y1 == 1)=false:=beq_eq_false_iff_ne.2 fun e=>hk ⟨beq_iff_eq.1 h1,e⟩
  clear hk;go_enter Tryz.func206,Tryz.ntmps206;go_wp2_with (first | (go_at_call 140;refine (D4 _ _ _).mono ?_;rintro e w' ⟨rfl,o4,rfl⟩) | (go_at_call 207;refine (pA _ _ _).mono ?_;rintro e w' ⟨rfl,o1,o2,rfl⟩))
  go_ret;exact⟨rfl,P0⟩
theorem a8V {own:Own} {mb:Nat} {g:PgR} {R:McR} {fs:List FrR} {f:FrR} {rest:List Val} {va:Option Addr} {sb:Nat} {w:World} {x y:Int} (h:C9 w own mb g R fs f rest [(1,x),(1,y)] va sb) (a:Int) (vc:Nat) :
  Calls Tryz.prog 180 #[.pointer (some ⟨mb,0,none⟩),.int .i64 a,.slice va 2 vc] w fun e w'=>D0 own mb g R fs f (f.pc+1) (rest++[(1,wrap64 (x+y))]) (.int .i64 0) w e w':=by
 have HR:=hid (a2l h vc);clear h;go_enter Tryz.func180,Tryz.ntmps180;go_wp2_with (go_at_call 206;refine HR.out.mono ?_;rintro e w' ⟨own',sv',rfl,hm,ht⟩)
 go_ret;exact⟨own',sv',rfl,hm,ht⟩
theorem a1q {own:Own} {mb:Nat} {g:PgR} {R:McR} {fs:List FrR} {f:FrR} {rest:List Val} {va:Option Addr} {sb:Nat} {w:World} {x y:Val} (h:C9 w own mb g R fs f rest [x,y] va sb) (hk:¬(x.1=1∧y.1=1)) (a:Int) (vc:Nat) :
  Calls Tryz.prog 180 #[.pointer (some ⟨mb,0,none⟩),.int .i64 a,.slice va 2 vc] w fun e w'=>G7 2 w e w':=by
 have HR:=hid (sK h hk vc);clear h hk;go_enter Tryz.func180,Tryz.ntmps180;go_wp2_with (go_at_call 206;refine HR.out.mono ?_;rintro e w' ⟨rfl,hb⟩)
 go_ret;exact⟨rfl,hb⟩
theorem pI (x y:Int) (w:World):Calls Tryz.prog 208 #[.int .i64 x,.int .i64 y] w fun e w'=>e=.returned (.agg #[.int .u8 1,.int .i64 (wrap64 (x - y))])∧∃o o',w'=(w.alloc o).alloc o':=by
 go_enter Tryz.func208,Tryz.ntmps208;go_wp2_with (go_at_call 152;refine (N4 _ _).mono ?_;rintro e w' ⟨rfl,o,rfl⟩)
 exact bodyPost_ret (v:=.agg #[.int .u8 1,.int .i64 (wrap64 (x - y))]) (by simp [results,Tryz.results208,go_sem]) rfl ⟨rfl,_,_,rfl⟩
theorem a2o {own:Own} {mb:Nat} {g:PgR} {R:McR} {fs:List FrR} {f:FrR} {rest:List Val} {va:Option Addr} {sb:Nat} {w:World} {x y:Int} (h:C9 w own mb g R fs f rest [(1,x),(1,y)] va sb) (vc:Nat) :
  Calls Tryz.prog 206 #[.pointer (some ⟨mb,0,none⟩),.slice va 2 vc,.func (.func 208) #[] #[]] w fun e w'=>D0 own mb g R fs f (f.pc+1) (rest++[(1,wrap64 (x - y))]) (.int .i64 0) w e w':=by
 obtain⟨o,rfl,hsb,c0,c1,c2,c3⟩:=h.two;simp only at c0 c1 c2 c3;have HH:=hid h;clear h;go_enter Tryz.func206,Tryz.ntmps206;go_wp2_with (first | (go_at_call 140;refine (D4 _ _ _).mono ?_;rintro e w' ⟨rfl,o4,rfl⟩) | (go_at_call 208;refine (pI _ _ _).mono ?_;rintro e w' ⟨rfl,o1,o2,rfl⟩))
 go_region_with (first | (go_at_call 205;refine (HH.out.answer P0 vc _ [(1,wrap64 (x - y))] (J6 HH.out.m P9 (by first | exact D8 Q9 | exact O5 Q9 | exact T2 Q9)) Q9 2 rfl).mono ?_;rintro e w' ⟨own',sv',rfl,hm,ht⟩) | (first | (go_at_call 140;refine (D4 _ _ _).mono ?_;rintro e w' ⟨rfl,o4,rfl⟩) | (go_at_call 208;refine (pI _ _ _).mono ?_;rintro e w' ⟨rfl,o1,o2,rfl⟩)))
 all_goals go_wp2_with fail
 all_goals go_ret
 all_goals exact ⟨own',sv',rfl,hm,ht⟩
theorem sM {own:Own} {mb:Nat} {g:PgR} {R:McR} {fs:List FrR} {f:FrR} {rest:List Val} {va:Option Addr} {sb:Nat} {w:World} {x y:Val} (h:C9 w own mb g R fs f rest [x,y] va sb) (hk:¬(x.1=1∧y.1=1)) (vc:Nat) :
  Calls Tryz.prog 206 #[.pointer (some ⟨mb,0,none⟩),.slice va 2 vc,.func (.func 208) #[] #[]] w fun e w'=>G7 2 w e w':=by
 obtain⟨o,rfl,hsb,c0,c1,c2,c3⟩:=h.two;obtain⟨x1,x2⟩:=x;obtain⟨y1,y2⟩:=y;simp only at c0 c1 c2 c3 hk;clear h
 cases h1:(x1 == 1)
 ·clear hk
  go_enter Tryz.func206,Tryz.ntmps206;go_wp2_with (first | (go_at_call 140;refine (D4 _ _ _).mono ?_;rintro e w' ⟨rfl,o4,rfl⟩) | (go_at_call 208;refine (pI _ _ _).mono ?_;rintro e w' ⟨rfl,o1,o2,rfl⟩))
  go_ret;exact⟨rfl,P0⟩
 ·have h2:(y1 == 1)=false:=beq_eq_false_iff_ne.2 fun e=>hk ⟨beq_iff_eq.1 h1,e⟩
  clear hk;go_enter Tryz.func206,Tryz.ntmps206;go_wp2_with (first | (go_at_call 140;refine (D4 _ _ _).mono ?_;rintro e w' ⟨rfl,o4,rfl⟩) | (go_at_call 208;refine (pI _ _ _).mono ?_;rintro e w' ⟨rfl,o1,o2,rfl⟩))
  go_ret;exact⟨rfl,P0⟩
theorem a8Z {own:Own} {mb:Nat} {g:PgR} {R:McR} {fs:List FrR} {f:FrR} {rest:List Val} {va:Option Addr} {sb:Nat} {w:World} {x y:Int} (h:C9 w own mb g R fs f rest [(1,x),(1,y)] va sb) (a:Int) (vc:Nat) :
  Calls Tryz.prog 181 #[.pointer (some ⟨mb,0,none⟩),.int .i64 a,.slice va 2 vc] w fun e w'=>D0 own mb g R fs f (f.pc+1) (rest++[(1,wrap64 (x - y))]) (.int .i64 0) w e w':=by
 have HR:=hid (a2o h vc);clear h;go_enter Tryz.func181,Tryz.ntmps181;go_wp2_with (go_at_call 206;refine HR.out.mono ?_;rintro e w' ⟨own',sv',rfl,hm,ht⟩)
 go_ret;exact⟨own',sv',rfl,hm,ht⟩
theorem a1s {own:Own} {mb:Nat} {g:PgR} {R:McR} {fs:List FrR} {f:FrR} {rest:List Val} {va:Option Addr} {sb:Nat} {w:World} {x y:Val} (h:C9 w own mb g R fs f rest [x,y] va sb) (hk:¬(x.1=1∧y.1=1)) (a:Int) (vc:Nat) :
  Calls Tryz.prog 181 #[.pointer (some ⟨mb,0,none⟩),.int .i64 a,.slice va 2 vc] w fun e w'=>G7 2 w e w':=by
 have HR:=hid (sM h hk vc);clear h hk;go_enter Tryz.func181,Tryz.ntmps181;go_wp2_with (go_at_call 206;refine HR.out.mono ?_;rintro e w' ⟨rfl,hb⟩)
 go_ret;exact⟨rfl,hb⟩
theorem pE (x y:Int) (w:World):Calls Tryz.prog 209 #[.int .i64 x,.int .i64 y] w fun e w'=>e=.returned (.agg #[.int .u8 1,.int .i64 (wrap64 (x*y))])∧∃o o',w'=(w.alloc o).alloc o':=by
 go_enter Tryz.func209,Tryz.ntmps209;go_wp2_with (go_at_call 152;refine (N4 _ _).mono ?_;rintro e w' ⟨rfl,o,rfl⟩)
 exact bodyPost_ret (v:=.agg #[.int .u8 1,.int .i64 (wrap64 (x*y))]) (by simp [results,Tryz.results209,go_sem]) rfl ⟨rfl,_,_,rfl⟩
theorem a2n {own:Own} {mb:Nat} {g:PgR} {R:McR} {fs:List FrR} {f:FrR} {rest:List Val} {va:Option Addr} {sb:Nat} {w:World} {x y:Int} (h:C9 w own mb g R fs f rest [(1,x),(1,y)] va sb) (vc:Nat) :
  Calls Tryz.prog 206 #[.pointer (some ⟨mb,0,none⟩),.slice va 2 vc,.func (.func 209) #[] #[]] w fun e w'=>D0 own mb g R fs f (f.pc+1) (rest++[(1,wrap64 (x*y))]) (.int .i64 0) w e w':=by
 obtain⟨o,rfl,hsb,c0,c1,c2,c3⟩:=h.two;simp only at c0 c1 c2 c3;have HH:=hid h;clear h;go_enter Tryz.func206,Tryz.ntmps206;go_wp2_with (first | (go_at_call 140;refine (D4 _ _ _).mono ?_;rintro e w' ⟨rfl,o4,rfl⟩) | (go_at_call 209;refine (pE _ _ _).mono ?_;rintro e w' ⟨rfl,o1,o2,rfl⟩))
 go_region_with (first | (go_at_call 205;refine (HH.out.answer P0 vc _ [(1,wrap64 (x*y))] (J6 HH.out.m P9 (by first | exact D8 Q9 | exact O5 Q9 | exact T2 Q9)) Q9 2 rfl).mono ?_;rintro e w' ⟨own',sv',rfl,hm,ht⟩) | (first | (go_at_call 140;refine (D4 _ _ _).mono ?_;rintro e w' ⟨rfl,o4,rfl⟩) | (go_at_call 209;refine (pE _ _ _).mono ?_;rintro e w' ⟨rfl,o1,o2,rfl⟩)))
 all_goals go_wp2_with fail
 all_goals go_ret
 all_goals exact ⟨own',sv',rfl,hm,ht⟩
theorem sL {own:Own} {mb:Nat} {g:PgR} {R:McR} {fs:List FrR} {f:FrR} {rest:List Val} {va:Option Addr} {sb:Nat} {w:World} {x y:Val} (h:C9 w own mb g R fs f rest [x,y] va sb) (hk:¬(x.1=1∧y.1=1)) (vc:Nat) :
  Calls Tryz.prog 206 #[.pointer (some ⟨mb,0,none⟩),.slice va 2 vc,.func (.func 209) #[] #[]] w fun e w'=>G7 2 w e w':=by
 obtain⟨o,rfl,hsb,c0,c1,c2,c3⟩:=h.two;obtain⟨x1,x2⟩:=x;obtain⟨y1,y2⟩:=y;simp only at c0 c1 c2 c3 hk;clear h
 cases h1:(x1 == 1)
 ·clear hk
  go_enter Tryz.func206,Tryz.ntmps206;go_wp2_with (first | (go_at_call 140;refine (D4 _ _ _).mono ?_;rintro e w' ⟨rfl,o4,rfl⟩) | (go_at_call 209;refine (pE _ _ _).mono ?_;rintro e w' ⟨rfl,o1,o2,rfl⟩))
  go_ret;exact⟨rfl,P0⟩
 ·have h2:(y1 == 1)=false:=beq_eq_false_iff_ne.2 fun e=>hk ⟨beq_iff_eq.1 h1,e⟩
  clear hk;go_enter Tryz.func206,Tryz.ntmps206;go_wp2_with (first | (go_at_call 140;refine (D4 _ _ _).mono ?_;rintro e w' ⟨rfl,o4,rfl⟩) | (go_at_call 209;refine (pE _ _ _).mono ?_;rintro e w' ⟨rfl,o1,o2,rfl⟩))
  go_ret;exact⟨rfl,P0⟩
theorem a8X {own:Own} {mb:Nat} {g:PgR} {R:McR} {fs:List FrR} {f:FrR} {rest:List Val} {va:Option Addr} {sb:Nat} {w:World} {x y:Int} (h:C9 w own mb g R fs f rest [(1,x),(1,y)] va sb) (a:Int) (vc:Nat) :
  Calls Tryz.prog 182 #[.pointer (some ⟨mb,0,none⟩),.int .i64 a,.slice va 2 vc] w fun e w'=>D0 own mb g R fs f (f.pc+1) (rest++[(1,wrap64 (x*y))]) (.int .i64 0) w e w':=by
 have HR:=hid (a2n h vc);clear h;go_enter Tryz.func182,Tryz.ntmps182;go_wp2_with (go_at_call 206;refine HR.out.mono ?_;rintro e w' ⟨own',sv',rfl,hm,ht⟩)
 go_ret;exact⟨own',sv',rfl,hm,ht⟩
theorem a1r {own:Own} {mb:Nat} {g:PgR} {R:McR} {fs:List FrR} {f:FrR} {rest:List Val} {va:Option Addr} {sb:Nat} {w:World} {x y:Val} (h:C9 w own mb g R fs f rest [x,y] va sb) (hk:¬(x.1=1∧y.1=1)) (a:Int) (vc:Nat) :
  Calls Tryz.prog 182 #[.pointer (some ⟨mb,0,none⟩),.int .i64 a,.slice va 2 vc] w fun e w'=>G7 2 w e w':=by
 have HR:=hid (sL h hk vc);clear h hk;go_enter Tryz.func182,Tryz.ntmps182;go_wp2_with (go_at_call 206;refine HR.out.mono ?_;rintro e w' ⟨rfl,hb⟩)
 go_ret;exact⟨rfl,hb⟩
theorem lQ (x y:Int) (w:World):Calls Tryz.prog 210 #[.int .i64 x,.int .i64 y] w fun e w'=>e=.returned (.agg #[.int .u8 1,.int .i64 (Z3 (decide (x < y)))])∧∃o o' o'',w'=((w.alloc o).alloc o').alloc o'':=by
 go_enter Tryz.func210,Tryz.ntmps210;go_wp2_with (go_at_call 211;refine (nN _ _).mono ?_;rintro e w' ⟨rfl,o,o',rfl⟩)
 exact bodyPost_ret (v:=.agg #[.int .u8 1,.int .i64 (Z3 (decide (x < y)))]) (by simp [results,Tryz.results210,go_sem]) rfl ⟨rfl,_,_,_,rfl⟩
theorem a0x {own:Own} {mb:Nat} {g:PgR} {R:McR} {fs:List FrR} {f:FrR} {rest:List Val} {va:Option Addr} {sb:Nat} {w:World} {x y:Int} (h:C9 w own mb g R fs f rest [(1,x),(1,y)] va sb) (vc:Nat) :
  Calls Tryz.prog 206 #[.pointer (some ⟨mb,0,none⟩),.slice va 2 vc,.func (.func 210) #[] #[]] w fun e w'=>D0 own mb g R fs f (f.pc+1) (rest++[(1,Z3 (decide (x < y)))]) (.int .i64 0) w e w':=by
 obtain⟨o,rfl,hsb,c0,c1,c2,c3⟩:=h.two;simp only at c0 c1 c2 c3;have HH:=hid h;clear h;go_enter Tryz.func206,Tryz.ntmps206;go_wp2_with (first | (go_at_call 140;refine (D4 _ _ _).mono ?_;rintro e w' ⟨rfl,o4,rfl⟩) | (go_at_call 210;refine (lQ _ _ _).mono ?_;rintro e w' ⟨rfl,o1,o2,o3,rfl⟩))
 go_region_with (first | (go_at_call 205;refine (HH.out.answer P0 vc _ [(1,Z3 (decide (x < y)))] (J6 HH.out.m P9 (by first | exact D8 Q9 | exact O5 Q9 | exact T2 Q9)) Q9 2 rfl).mono ?_;rintro e w' ⟨own',sv',rfl,hm,ht⟩) | (first | (go_at_call 140;refine (D4 _ _ _).mono ?_;rintro e w' ⟨rfl,o4,rfl⟩) | (go_at_call 210;refine (lQ _ _ _).mono ?_;rintro e w' ⟨rfl,o1,o2,o3,rfl⟩)))
 all_goals go_wp2_with fail
 all_goals go_ret
 all_goals exact ⟨own',sv',rfl,hm,ht⟩
theorem oU {own:Own} {mb:Nat} {g:PgR} {R:McR} {fs:List FrR} {f:FrR} {rest:List Val} {va:Option Addr} {sb:Nat} {w:World} {x y:Val} (h:C9 w own mb g R fs f rest [x,y] va sb) (hk:¬(x.1=1∧y.1=1)) (vc:Nat) :
  Calls Tryz.prog 206 #[.pointer (some ⟨mb,0,none⟩),.slice va 2 vc,.func (.func 210) #[] #[]] w fun e w'=>G7 2 w e w':=by
 obtain⟨o,rfl,hsb,c0,c1,c2,c3⟩:=h.two;obtain⟨x1,x2⟩:=x;obtain⟨y1,y2⟩:=y;simp only at c0 c1 c2 c3 hk;clear h
 cases h1:(x1 == 1)
 ·clear hk
  go_enter Tryz.func206,Tryz.ntmps206;go_wp2_with (first | (go_at_call 140;refine (D4 _ _ _).mono ?_;rintro e w' ⟨rfl,o4,rfl⟩) | (go_at_call 210;refine (lQ _ _ _).mono ?_;rintro e w' ⟨rfl,o1,o2,o3,rfl⟩))
  go_ret;exact⟨rfl,P0⟩
 ·have h2:(y1 == 1)=false:=beq_eq_false_iff_ne.2 fun e=>hk ⟨beq_iff_eq.1 h1,e⟩
  clear hk;go_enter Tryz.func206,Tryz.ntmps206;go_wp2_with (first | (go_at_call 140;refine (D4 _ _ _).mono ?_;rintro e w' ⟨rfl,o4,rfl⟩) | (go_at_call 210;refine (lQ _ _ _).mono ?_;rintro e w' ⟨rfl,o1,o2,o3,rfl⟩))
  go_ret;exact⟨rfl,P0⟩
theorem a7L {own:Own} {mb:Nat} {g:PgR} {R:McR} {fs:List FrR} {f:FrR} {rest:List Val} {va:Option Addr} {sb:Nat} {w:World} {x y:Int} (h:C9 w own mb g R fs f rest [(1,x),(1,y)] va sb) (a:Int) (vc:Nat) :
  Calls Tryz.prog 183 #[.pointer (some ⟨mb,0,none⟩),.int .i64 a,.slice va 2 vc] w fun e w'=>D0 own mb g R fs f (f.pc+1) (rest++[(1,Z3 (decide (x < y)))]) (.int .i64 0) w e w':=by
 have HR:=hid (a0x h vc);clear h;go_enter Tryz.func183,Tryz.ntmps183;go_wp2_with (go_at_call 206;refine HR.out.mono ?_;rintro e w' ⟨own',sv',rfl,hm,ht⟩)
 go_ret;exact⟨own',sv',rfl,hm,ht⟩
theorem zF {own:Own} {mb:Nat} {g:PgR} {R:McR} {fs:List FrR} {f:FrR} {rest:List Val} {va:Option Addr} {sb:Nat} {w:World} {x y:Val} (h:C9 w own mb g R fs f rest [x,y] va sb) (hk:¬(x.1=1∧y.1=1)) (a:Int) (vc:Nat) :
  Calls Tryz.prog 183 #[.pointer (some ⟨mb,0,none⟩),.int .i64 a,.slice va 2 vc] w fun e w'=>G7 2 w e w':=by
 have HR:=hid (oU h hk vc);clear h hk;go_enter Tryz.func183,Tryz.ntmps183;go_wp2_with (go_at_call 206;refine HR.out.mono ?_;rintro e w' ⟨rfl,hb⟩)
 go_ret;exact⟨rfl,hb⟩
end Go.Proofs.YtbkmgoffiigdbabGreatDoor
