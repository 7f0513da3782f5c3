import Derived.Test.YtbkmgoffiigdbaaGreatDoorWAj
namespace Go.Proofs.YtbkmgoffiigdbaaGreatDoor
open Go.RowKit Go.Sort Go.Proofs.Tryz
set_option maxHeartbeats 2000000
set_option maxRecDepth 100000
theorem aF {W:World} {mb:Nat} {sb m sc nl lc:Nat} {la:Option Addr} (fn:Nat) (x y:Val) (a:Int) (pc:Nat) (hpc:pc<=1000) (hsb:sb < W.heap.size) (x0:W.cell? ⟨sb,m*2,none⟩=some (.int .u8 x.1)) (x1:W.cell? ⟨sb,m*2+1,none⟩=some (.int .i64 x.2)) (y0:W.cell? ⟨sb,(m+1)*2,none⟩=some (.int .u8 y.1)) (y1:W.cell? ⟨sb,(m+1)*2+1,none⟩=some (.int .i64 y.2)) (hm:m<=1000) (op:Int) (hop:op=7\/op=8\/op=9\/op=10) {drop:Int} {push:List Val} {to trap:Int} (har:∀U,Calls prog 224 #[.int .i64 op,.int .i64 (pc:Int),.agg #[.int .u8 x.1,.int .i64 x.2],.agg #[.int .u8 y.1,.int .i64 y.2]] U fun e w'=>C2 drop push to trap U e w') :
  Calls prog 185 #[.pointer (some ⟨mb,0,none⟩),.agg #[.int .i64 op,.int .i64 a],.int .i64 (pc:Int),.agg #[.int .i64 (fn:Int),.int .i64 (pc:Int),.slice la nl lc,.slice (some ⟨sb,0,none⟩) (m+2) sc]] W fun e w'=>C2 drop push to trap W e w':=by
 have yb:=(fun (_:m<=1000)=>hpc) hm;obtain⟨xk,xn⟩:=x;obtain⟨yk,yn⟩:=y;simp only at x0 x1 y0 y1;obtain⟨xp,xz,xs,xl⟩:=S9 (show sb < W.heap.size by omega);have yg:IntKind.i64.wrap ((m:Int)+2 - 1)=(m:Int)+1:=by rw [Go.IntWalk.i64_in _ R4];omega
 have yi:IntKind.i64.wrap ((m:Int)+2 - 2)=(m:Int):=by rw [Go.IntWalk.i64_in _ R4];omega
 have yo:IntKind.i64.wrap (m:Int)=(m:Int):=Go.IntWalk.i64_in _ R4;have yh:((m:Int)+1).toNat=m+1:=by omega
 have yr:(m:Int)+1 < (m:Int)+2:=by omega
 have yw:(0:Int)<=(m:Int)+1:=by omega
 have ye:¬op=0:=by omega
 have yp:(op == 0)=false:=L2c.2 ye;have xu:¬op=1:=by omega
 have xa:(op == 1)=false:=L2c.2 xu;have xx:¬op=2:=by omega
 have ys:(op == 2)=false:=L2c.2 xx;have xi:¬op=3:=by omega
 have yj:(op == 3)=false:=L2c.2 xi;have xq:¬op=4:=by omega
 have yf:(op == 4)=false:=L2c.2 xq;have xj:¬op=5:=by omega
 have ym:(op == 5)=false:=L2c.2 xj;have xr:¬op=6:=by omega
 have yv:(op == 6)=false:=L2c.2 xr;have xf:¬op=11:=by omega
 have xv:(op == 11)=false:=L2c.2 xf;have xb:¬op=25:=by omega
 have xo:(op == 25)=false:=L2c.2 xb;have xc:¬op=26:=by omega
 have yc:(op == 26)=false:=L2c.2 xc;have xe:¬op=12:=by omega
 have xw:(op == 12)=false:=L2c.2 xe;have xd:¬op=13:=by omega
 have ya:(op == 13)=false:=L2c.2 xd;have xh:=hid har;clear har hop;simp only at xh;go_enter func185,ntmps185;go_wp2_with fail;go_region_with (go_at_call 224;refine (xh.out _).mono ?_;rintro e w1 ⟨pa,yd,rfl,xa,xg⟩;have xm:=hid xa;have xy:=hid xg;have d0:w1.cell? ⟨W.heap.size+1+1,0,none⟩=some (.int .i64 0):=keep xa R5 Q9;have d1:w1.cell? ⟨W.heap.size+1+1,1,none⟩=some (.slice none 0 0):=keep xa R5 Q9;have d2:w1.cell? ⟨W.heap.size+1+1,2,none⟩=some (.int .i64 0):=keep xa R5 Q9;have d3:w1.cell? ⟨W.heap.size+1+1,3,none⟩=some (.int .i64 0):=keep xa R5 Q9;have yq:w1.frozen? ⟨W.heap.size+1+1,0,none⟩=false:=B9 xa R5 Q9;have yu:w1.frozen? ⟨W.heap.size+1+1,1,none⟩=false:=B9 xa R5 Q9;have yt:w1.frozen? ⟨W.heap.size+1+1,2,none⟩=false:=B9 xa R5 Q9;have yl:w1.frozen? ⟨W.heap.size+1+1,3,none⟩=false:=B9 xa R5 Q9;have xt:W.heap.size+1+1 < w1.heap.size:=L0a R5 xa.size;clear xa xg)
 all_goals go_wp2_with fail
 all_goals
  refine bodyPost_ret (v:=.agg #[.int .i64 drop,.slice pa push.length yd,.int .i64 to,.int .i64 trap]) (by simp [results,results185,go_sem,d0,d1,d2,d3]) rfl ?_;exact C2.stored P4 xm.out xy.out R4 R5 _ _ _ _
end Go.Proofs.YtbkmgoffiigdbaaGreatDoor
