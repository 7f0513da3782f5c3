import Derived.Test.YtbkmgoffiigdbaaGreatDoorWAg
namespace Go.Proofs.YtbkmgoffiigdbaaGreatDoor
open Go.RowKit Go.Sort Go.Proofs.Tryz
set_option maxHeartbeats 2000000
set_option maxRecDepth 100000
section
variable {W:World} {la sa:Option Addr} {lc m mb nl sb sc:Nat}
theorem a1u (b:Bool) (W:World):Calls prog 223 #[.bool b] W fun e w'=>e=.returned (.agg #[.int .u8 1,.int .i64 (C9 b)])/\w'=(W.alloc (Obj.cells #[.int .u8 1,.int .i64 (C9 b)] 92)).alloc (Obj.cells #[.int .u8 1,.int .i64 (C9 b)] 92):=by
 cases b
 ·go_enter func223,ntmps223
  go_wp2_with (go_at_call 215;refine CE (cT _ _) ?_)
  refine bodyPost_ret (v:=.agg #[.int .u8 1,.int .i64 (C9 false)]) (by simp [results,results223,go_sem,C9]) rfl ?_;exact⟨rfl,rfl⟩
 ·go_enter func223,ntmps223
  go_wp2_with (go_at_call 215;refine CE (cT _ _) ?_)
  refine bodyPost_ret (v:=.agg #[.int .u8 1,.int .i64 (C9 true)]) (by simp [results,results223,go_sem,C9]) rfl ?_;exact⟨rfl,rfl⟩
theorem a6l (fn:Nat) (a:Int) (pc:Nat) (hpc:pc<=1000) (hm:m<=1000) :
  Calls prog 185 #[.pointer (some ⟨mb,0,none⟩),.agg #[.int .i64 0,.int .i64 a],.int .i64 (pc:Int),.agg #[.int .i64 (fn:Int),.int .i64 (pc:Int),.slice la nl lc,.slice sa m sc]] W fun e w'=>C2 0 [(1,a)] ((pc:Int)+1) 0 W e w':=by
 have xa:=(fun (_:m<=1000)=>hpc) hm;go_enter func185,ntmps185;go_wp2_with (first | (go_at_call 215;refine CE (cT _ _) ?_) | (go_at_call 220;refine CE (L9 _ _ (1,a) _ hpc) ?_))
 refine bodyPost_ret (v:=.agg #[.int .i64 0,.slice (some ⟨W.heap.size+1+1+1+1+1+1,0,none⟩) 1 1,.int .i64 ((pc:Int)+1),.int .i64 0]) (by simp [results,results185,go_sem]) rfl ?_;refine⟨_,1,rfl,P4,rfl,L4b ⟨W.heap.size+1+1+1+1+1+1,1,#[.int .u8 1,.int .i64 a],rfl,by omega,?_,L1c _,by decide,rfl,rfl⟩⟩
 exact B1 R5
theorem a6m (fn:Nat) (a:Int) (pc:Nat) (hpc:pc<=1000) (hm:m<=1000) :
  Calls prog 185 #[.pointer (some ⟨mb,0,none⟩),.agg #[.int .i64 1,.int .i64 a],.int .i64 (pc:Int),.agg #[.int .i64 (fn:Int),.int .i64 (pc:Int),.slice la nl lc,.slice sa m sc]] W fun e w'=>C2 0 [(0,0)] ((pc:Int)+1) 0 W e w':=by
 have xa:=(fun (_:m<=1000)=>hpc) hm;go_enter func185,ntmps185;go_wp2_with (first | (go_at_call 220;refine CE (L9 _ _ (0,0) _ hpc) ?_))
 refine bodyPost_ret (v:=.agg #[.int .i64 0,.slice (some ⟨W.heap.size+1+1+1+1+1,0,none⟩) 1 1,.int .i64 ((pc:Int)+1),.int .i64 0]) (by simp [results,results185,go_sem]) rfl ?_;refine⟨_,1,rfl,P4,rfl,L4b ⟨W.heap.size+1+1+1+1+1,1,#[.int .u8 0,.int .i64 0],rfl,by omega,?_,L1c _,by decide,rfl,rfl⟩⟩
 exact B1 R5
theorem a6k (fn:Nat) (x:Val) (a:Int) (pc:Nat) (hpc:pc<=1000) (hsb:sb < W.heap.size) (x0:W.cell? ⟨sb,m*2,none⟩=some (.int .u8 x.1)) (x1:W.cell? ⟨sb,m*2+1,none⟩=some (.int .i64 x.2)) (hm:m<=1000) :
  Calls prog 185 #[.pointer (some ⟨mb,0,none⟩),.agg #[.int .i64 4,.int .i64 a],.int .i64 (pc:Int),.agg #[.int .i64 (fn:Int),.int .i64 (pc:Int),.slice la nl lc,.slice (some ⟨sb,0,none⟩) (m+1) sc]] W fun e w'=>C2 0 [x] ((pc:Int)+1) 0 W e w':=by
 have xe:=(fun (_:m<=1000)=>hpc) hm;obtain⟨xk,xn⟩:=x;simp only at x0 x1;obtain⟨xd,xb,xc,xa⟩:=S9 (show sb < W.heap.size by omega);go_enter func185,ntmps185;go_wp2_with (first | (go_at_call 220;refine CE (L9 _ _ (xk,xn) _ hpc) ?_))
 refine bodyPost_ret (v:=.agg #[.int .i64 0,.slice (some ⟨W.heap.size+1+1+1+1+1,0,none⟩) 1 1,.int .i64 ((pc:Int)+1),.int .i64 0]) (by simp [results,results185,go_sem]) rfl ?_;refine⟨_,1,rfl,P4,rfl,L4b ⟨W.heap.size+1+1+1+1+1,1,#[.int .u8 xk,.int .i64 xn],rfl,by omega,?_,L1c _,by decide,rfl,rfl⟩⟩
 exact B1 R5
theorem a6n (fn:Nat) (x:Val) (a:Int) (pc:Nat) (hpc:pc<=1000) (hsb:sb < W.heap.size) (x0:W.cell? ⟨sb,m*2,none⟩=some (.int .u8 x.1)) (x1:W.cell? ⟨sb,m*2+1,none⟩=some (.int .i64 x.2)) (hm:m<=1000) :
  Calls prog 185 #[.pointer (some ⟨mb,0,none⟩),.agg #[.int .i64 5,.int .i64 a],.int .i64 (pc:Int),.agg #[.int .i64 (fn:Int),.int .i64 (pc:Int),.slice la nl lc,.slice (some ⟨sb,0,none⟩) (m+1) sc]] W fun e w'=>C2 1 [] ((pc:Int)+1) 0 W e w':=by
 have xe:=(fun (_:m<=1000)=>hpc) hm;obtain⟨xk,xn⟩:=x;simp only at x0 x1;obtain⟨xd,xb,xc,xa⟩:=S9 (show sb < W.heap.size by omega);go_enter func185,ntmps185;go_wp2_with (first | (go_at_call 222;refine CE (R8 _ _ _ hpc) ?_))
 refine bodyPost_ret (v:=.agg #[.int .i64 1,.slice none 0 0,.int .i64 ((pc:Int)+1),.int .i64 0]) (by simp [results,results185,go_sem]) rfl ?_;exact⟨none,0,rfl,P4,B8 _ _⟩
theorem a3s (fn:Nat) (x:Val) (a:Int) (pc:Nat) (hpc:pc<=1000) (hsb:sb < W.heap.size) (x0:W.cell? ⟨sb,m*2,none⟩=some (.int .u8 x.1)) (x1:W.cell? ⟨sb,m*2+1,none⟩=some (.int .i64 x.2)) (hm:m<=1000) :
  Calls prog 185 #[.pointer (some ⟨mb,0,none⟩),.agg #[.int .i64 25,.int .i64 a],.int .i64 (pc:Int),.agg #[.int .i64 (fn:Int),.int .i64 (pc:Int),.slice la nl lc,.slice (some ⟨sb,0,none⟩) (m+1) sc]] W fun e w'=>C2 1 [(1,C9 (x.1 == 2))] ((pc:Int)+1) 0 W e w':=by
 have xe:=(fun (_:m<=1000)=>hpc) hm;obtain⟨xk,xn⟩:=x;simp only at x0 x1;obtain⟨xd,xb,xc,xa⟩:=S9 (show sb < W.heap.size by omega);go_enter func185,ntmps185;go_wp2_with (first | (go_at_call 223;refine CE (a1u _ _) ?_) | (go_at_call 220;refine CE (L9 _ _ (1,(C9 (xk == 2))) _ hpc) ?_))
 refine bodyPost_ret (v:=.agg #[.int .i64 1,.slice (some ⟨W.heap.size+1+1+1+1+1+1+1,0,none⟩) 1 1,.int .i64 ((pc:Int)+1),.int .i64 0]) (by simp [results,results185,go_sem]) rfl ?_;refine⟨_,1,rfl,P4,rfl,L4b ⟨W.heap.size+1+1+1+1+1+1+1,1,#[.int .u8 1,.int .i64 (C9 (xk == 2))],rfl,by omega,?_,L1c _,by decide,rfl,rfl⟩⟩
 exact B1 R5
theorem a5b (fn:Nat) (a:Int) (pc:Nat) (hpc:pc<=1000) (hm:m<=1000) :
  Calls prog 185 #[.pointer (some ⟨mb,0,none⟩),.agg #[.int .i64 12,.int .i64 a],.int .i64 (pc:Int),.agg #[.int .i64 (fn:Int),.int .i64 (pc:Int),.slice la nl lc,.slice sa m sc]] W fun e w'=>C2 0 [] a 0 W e w':=by
 have xa:=(fun (_:m<=1000)=>hpc) hm;go_enter func185,ntmps185;go_wp2_with (first | fail)
 refine bodyPost_ret (v:=.agg #[.int .i64 0,.slice none 0 0,.int .i64 a,.int .i64 0]) (by simp [results,results185,go_sem]) rfl ?_;exact⟨none,0,rfl,P4,B8 _ _⟩
theorem a1r (fn:Nat) (x:Val) (a:Int) (pc:Nat) (hpc:pc<=1000) (hsb:sb < W.heap.size) (x0:W.cell? ⟨sb,m*2,none⟩=some (.int .u8 x.1)) (x1:W.cell? ⟨sb,m*2+1,none⟩=some (.int .i64 x.2)) (hm:m<=1000) (h2:x.1=2) :
  Calls prog 185 #[.pointer (some ⟨mb,0,none⟩),.agg #[.int .i64 13,.int .i64 a],.int .i64 (pc:Int),.agg #[.int .i64 (fn:Int),.int .i64 (pc:Int),.slice la nl lc,.slice (some ⟨sb,0,none⟩) (m+1) sc]] W fun e w'=>C2 1 [] ((pc:Int)+1) 0 W e w':=by
 have xf:=(fun (_:m<=1000)=>hpc) hm;obtain⟨xk,xn⟩:=x;simp only at x0 x1;obtain⟨xe,xc,xd,xb⟩:=S9 (show sb < W.heap.size by omega);have xa:xk=2:=h2;subst xa;clear h2;go_enter func185,ntmps185;go_wp2_with (first | (go_at_call 222;refine CE (R8 _ _ _ hpc) ?_))
 refine bodyPost_ret (v:=.agg #[.int .i64 1,.slice none 0 0,.int .i64 ((pc:Int)+1),.int .i64 0]) (by simp [results,results185,go_sem]) rfl ?_;exact⟨none,0,rfl,P4,B8 _ _⟩
theorem a1q (fn:Nat) (x:Val) (a:Int) (pc:Nat) (hpc:pc<=1000) (hsb:sb < W.heap.size) (x0:W.cell? ⟨sb,m*2,none⟩=some (.int .u8 x.1)) (x1:W.cell? ⟨sb,m*2+1,none⟩=some (.int .i64 x.2)) (hm:m<=1000) (h2:x.1≠2) (h3:x.2≠0) :
  Calls prog 185 #[.pointer (some ⟨mb,0,none⟩),.agg #[.int .i64 13,.int .i64 a],.int .i64 (pc:Int),.agg #[.int .i64 (fn:Int),.int .i64 (pc:Int),.slice la nl lc,.slice (some ⟨sb,0,none⟩) (m+1) sc]] W fun e w'=>C2 1 [] ((pc:Int)+1) 0 W e w':=by
 have xg:=(fun (_:m<=1000)=>hpc) hm;obtain⟨xk,xn⟩:=x;simp only at x0 x1;obtain⟨xf,xd,xe,xc⟩:=S9 (show sb < W.heap.size by omega);have xa:¬xk=2:=h2;have xb:¬xn=0:=h3;have xh:(xk == 2)=false:=L2c.2 xa;have xi:(xn == 0)=false:=L2c.2 xb;clear h2 h3;go_enter func185,ntmps185;go_wp2_with (first | (go_at_call 222;refine CE (R8 _ _ _ hpc) ?_))
 refine bodyPost_ret (v:=.agg #[.int .i64 1,.slice none 0 0,.int .i64 ((pc:Int)+1),.int .i64 0]) (by simp [results,results185,go_sem]) rfl ?_;exact⟨none,0,rfl,P4,B8 _ _⟩
theorem xT (fn:Nat) (x:Val) (a:Int) (pc:Nat) (hpc:pc<=1000) (hsb:sb < W.heap.size) (x0:W.cell? ⟨sb,m*2,none⟩=some (.int .u8 x.1)) (x1:W.cell? ⟨sb,m*2+1,none⟩=some (.int .i64 x.2)) (hm:m<=1000) (h2:x.1≠2) (h3:x.2=0) :
  Calls prog 185 #[.pointer (some ⟨mb,0,none⟩),.agg #[.int .i64 13,.int .i64 a],.int .i64 (pc:Int),.agg #[.int .i64 (fn:Int),.int .i64 (pc:Int),.slice la nl lc,.slice (some ⟨sb,0,none⟩) (m+1) sc]] W fun e w'=>C2 1 [] a 0 W e w':=by
 have xg:=(fun (_:m<=1000)=>hpc) hm;obtain⟨xk,xn⟩:=x;simp only at x0 x1;obtain⟨xf,xd,xe,xc⟩:=S9 (show sb < W.heap.size by omega);have xa:¬xk=2:=h2;have xb:xn=0:=h3;have xh:(xk == 2)=false:=L2c.2 xa;subst xb;clear h2 h3;go_enter func185,ntmps185;go_wp2_with (first | fail)
 refine bodyPost_ret (v:=.agg #[.int .i64 1,.slice none 0 0,.int .i64 a,.int .i64 0]) (by simp [results,results185,go_sem]) rfl ?_;exact⟨none,0,rfl,P4,B8 _ _⟩
theorem a5c (fn:Nat) (b:Nat) {lb:Nat} (y:Val) (pc:Nat) (hpc:pc<=1000) (hm:m<=1000) (hlb:lb < W.heap.size) (y0:W.cell? ⟨lb,b*2,none⟩=some (.int .u8 y.1)) (y1:W.cell? ⟨lb,b*2+1,none⟩=some (.int .i64 y.2)) (hb:b < nl) (hnl:nl<=1000) :
  Calls prog 185 #[.pointer (some ⟨mb,0,none⟩),.agg #[.int .i64 2,.int .i64 (b:Int)],.int .i64 (pc:Int),.agg #[.int .i64 (fn:Int),.int .i64 (pc:Int),.slice (some ⟨lb,0,none⟩) nl lc,.slice sa m sc]] W fun e w'=>C2 0 [y] ((pc:Int)+1) 0 W e w':=by
 have xe:=(fun (_:m<=1000)=>hpc) hm;obtain⟨yk,yn⟩:=y;simp only at y0 y1;have xf:(b:Int) < (nl:Int):=(fun (_:nl<=1000)=>by omega) hnl;obtain⟨xb,xd,xa,xc⟩:=S9 (show lb < W.heap.size by omega);go_enter func185,ntmps185;go_wp2_with (first | (go_at_call 220;refine CE (L9 _ _ (yk,yn) _ hpc) ?_))
 refine bodyPost_ret (v:=.agg #[.int .i64 0,.slice (some ⟨W.heap.size+1+1+1+1+1,0,none⟩) 1 1,.int .i64 ((pc:Int)+1),.int .i64 0]) (by simp [results,results185,go_sem]) rfl ?_;refine⟨_,1,rfl,P4,rfl,L4b ⟨W.heap.size+1+1+1+1+1,1,#[.int .u8 yk,.int .i64 yn],rfl,by omega,?_,L1c _,by decide,rfl,rfl⟩⟩
 exact B1 R5
theorem a5e (fn:Nat) (x y:Val) (a:Int) (pc:Nat) (hpc:pc<=1000) (hsb:sb < W.heap.size) (x0:W.cell? ⟨sb,m*2,none⟩=some (.int .u8 x.1)) (x1:W.cell? ⟨sb,m*2+1,none⟩=some (.int .i64 x.2)) (y0:W.cell? ⟨sb,(m+1)*2,none⟩=some (.int .u8 y.1)) (y1:W.cell? ⟨sb,(m+1)*2+1,none⟩=some (.int .i64 y.2)) (hm:m<=1000) :
  Calls prog 185 #[.pointer (some ⟨mb,0,none⟩),.agg #[.int .i64 6,.int .i64 a],.int .i64 (pc:Int),.agg #[.int .i64 (fn:Int),.int .i64 (pc:Int),.slice la nl lc,.slice (some ⟨sb,0,none⟩) (m+2) sc]] W fun e w'=>C2 2 [y,x] ((pc:Int)+1) 0 W e w':=by
 have xe:=(fun (_:m<=1000)=>hpc) hm;obtain⟨xk,xn⟩:=x;obtain⟨yk,yn⟩:=y;simp only at x0 x1 y0 y1;obtain⟨xd,xb,xc,xa⟩:=S9 (show sb < W.heap.size by omega);go_enter func185,ntmps185;go_wp2_with fail;go_region
 go_wp2_with fail;refine bodyPost_ret (v:=.agg #[.int .i64 2,.slice (some ⟨W.heap.size+1+1+1,0,none⟩) 2 2,.int .i64 ((pc:Int)+1),.int .i64 0]) (by simp [results,results185,go_sem]) rfl ?_;refine⟨_,2,rfl,P4,rfl,L4b ⟨W.heap.size+1+1+1,2,#[.int .u8 yk,.int .i64 yn,.int .u8 xk,.int .i64 xn],rfl,by omega,?_,L1c _,by decide,rfl,rfl⟩⟩
 exact B1 R5
end
end Go.Proofs.YtbkmgoffiigdbaaGreatDoor
