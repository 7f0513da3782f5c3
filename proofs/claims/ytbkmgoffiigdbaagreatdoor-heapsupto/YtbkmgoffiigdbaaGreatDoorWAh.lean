import Derived.Test.YtbkmgoffiigdbaaGreatDoorWAg
namespace Go.Proofs.YtbkmgoffiigdbaaGreatDoor
open Go.RowKit Go.Sort Go.Proofs.Tryz
set_option maxHeartbeats 2000000
set_option maxRecDepth 100000
section
variable {R:RfR} {W:World} {g:PgR} {mb:Nat} {own:Own}
theorem a3f (h:A8 W own mb g R) {sb m sc:Nat} (x i:Val) (a:Int) (pc:Nat) (hsb:sb < W.heap.size) (x0:W.cell? ⟨sb,m*2,none⟩=some (.int .u8 x.1)) (x1:W.cell? ⟨sb,m*2+1,none⟩=some (.int .i64 x.2)) (i0:W.cell? ⟨sb,(m+1)*2,none⟩=some (.int .u8 i.1)) (i1:W.cell? ⟨sb,(m+1)*2+1,none⟩=some (.int .i64 i.2)) (hm:m<=1000) (hkz:∀o,o∈R.ths->o.kind≠0) (hx:dM R x) (hk:(A0 R.abs.obs x).1≠2) :
  Calls prog 183 #[.pointer (some ⟨mb,0,none⟩),.agg #[.int .i64 21,.int .i64 a],.int .i64 (pc:Int),.slice (some ⟨sb,0,none⟩) (m+2) sc] W fun e w'=>C2 0 [] 0 2 W e w':=by
 by_cases h0:(A0 R.abs.obs x).1=0
 ·have h2:x.1≠2:=fun h2=>by
   obtain⟨j,o,e,ho,e2⟩:=jL hx h2;rw[e2] at h0;exact hkz o (L2a ho) h0
  have HK:=oI W mb h2;obtain⟨xk,xn⟩:=x;simp only at x0 x1 HK;obtain⟨ik,iN⟩:=i;simp only at i0 i1;clear h hkz hx h0 hk h2;obtain⟨xd,xb,xc,xa⟩:=S9 (show sb < W.heap.size by omega);go_enter func183,ntmps183;go_wp2_with (first | (go_at_call 221;refine CE (HK.out _ P4) ?_) | (go_at_call 218;refine CE (B5 _ _) ?_))
  refine bodyPost_ret (v:=.agg #[.int .i64 0,.slice none 0 0,.int .i64 0,.int .i64 2]) (by simp [results,results183,go_sem]) rfl ?_;exact⟨none,0,rfl,P4,B8 _ _⟩
 ·obtain ⟨j,o,rfl,ho,e2⟩:=T5 hx h0
  rw[e2] at hk;have xe:o.kind≠2:=hk;have xf:(o.kind == 2)=false:=L2c.2 xe;have HK:=dV h ho;generalize o.kind=kd at *
  simp only at x0 x1;obtain⟨ik,iN⟩:=i;simp only at i0 i1;clear h hkz hx h0 hk e2 ho;obtain⟨xd,xb,xc,xa⟩:=S9 (show sb < W.heap.size by omega);go_enter func183,ntmps183;go_wp2_with (first | (go_at_call 221;refine CE (HK.out _ P4) ?_) | (go_at_call 218;refine CE (B5 _ _) ?_))
  refine bodyPost_ret (v:=.agg #[.int .i64 0,.slice none 0 0,.int .i64 0,.int .i64 2]) (by simp [results,results183,go_sem]) rfl ?_;exact⟨none,0,rfl,P4,B8 _ _⟩
theorem a1s (h:A8 W own mb g R) {sb m sc:Nat} (x i y:Val) (a:Int) (pc:Nat) (hsb:sb < W.heap.size) (x0:W.cell? ⟨sb,m*2,none⟩=some (.int .u8 x.1)) (x1:W.cell? ⟨sb,m*2+1,none⟩=some (.int .i64 x.2)) (i0:W.cell? ⟨sb,(m+1)*2,none⟩=some (.int .u8 i.1)) (i1:W.cell? ⟨sb,(m+1)*2+1,none⟩=some (.int .i64 i.2)) (y0:W.cell? ⟨sb,(m+2)*2,none⟩=some (.int .u8 y.1)) (y1:W.cell? ⟨sb,(m+2)*2+1,none⟩=some (.int .i64 y.2)) (hm:m<=1000) (hkz:∀o,o∈R.ths->o.kind≠0) (hx:dM R x) (hk:(A0 R.abs.obs x).1≠2) :
  Calls prog 183 #[.pointer (some ⟨mb,0,none⟩),.agg #[.int .i64 22,.int .i64 a],.int .i64 (pc:Int),.slice (some ⟨sb,0,none⟩) (m+3) sc] W fun e w'=>C2 0 [] 0 2 W e w':=by
 by_cases h0:(A0 R.abs.obs x).1=0
 ·have h2:x.1≠2:=fun h2=>by
   obtain⟨j,o,e,ho,e2⟩:=jL hx h2;rw[e2] at h0;exact hkz o (L2a ho) h0
  have HK:=oI W mb h2;obtain⟨xk,xn⟩:=x;simp only at x0 x1 HK;obtain⟨ik,iN⟩:=i;obtain⟨yk,yn⟩:=y;simp only at i0 i1 y0 y1;clear h hkz hx h0 hk h2;obtain⟨xb,xd,xc,xa⟩:=S9 (show sb < W.heap.size by omega);go_enter func183,ntmps183;go_wp2_with (first | (go_at_call 221;refine CE (HK.out _ P4) ?_) | (go_at_call 218;refine CE (B5 _ _) ?_))
  refine bodyPost_ret (v:=.agg #[.int .i64 0,.slice none 0 0,.int .i64 0,.int .i64 2]) (by simp [results,results183,go_sem]) rfl ?_;exact⟨none,0,rfl,P4,B8 _ _⟩
 ·obtain ⟨j,o,rfl,ho,e2⟩:=T5 hx h0
  rw[e2] at hk;have xe:o.kind≠2:=hk;have xf:(o.kind == 2)=false:=L2c.2 xe;have HK:=dV h ho;generalize o.kind=kd at *
  simp only at x0 x1;obtain⟨ik,iN⟩:=i;obtain⟨yk,yn⟩:=y;simp only at i0 i1 y0 y1;clear h hkz hx h0 hk e2 ho;obtain⟨xb,xd,xc,xa⟩:=S9 (show sb < W.heap.size by omega);go_enter func183,ntmps183;go_wp2_with (first | (go_at_call 221;refine CE (HK.out _ P4) ?_) | (go_at_call 218;refine CE (B5 _ _) ?_))
  refine bodyPost_ret (v:=.agg #[.int .i64 0,.slice none 0 0,.int .i64 0,.int .i64 2]) (by simp [results,results183,go_sem]) rfl ?_;exact⟨none,0,rfl,P4,B8 _ _⟩
theorem a1c (h:A8 W own mb g R) {sb m sc j:Nat} {o:ThR} (ho:R.ths[j]?=some o) (i:Val) (a:Int) (pc:Nat) (hpc:pc<=1000) (hsb:sb < W.heap.size) (x0:W.cell? ⟨sb,m*2,none⟩=some (.int .u8 2)) (x1:W.cell? ⟨sb,m*2+1,none⟩=some (.int .i64 (j:Int))) (i0:W.cell? ⟨sb,(m+1)*2,none⟩=some (.int .u8 i.1)) (i1:W.cell? ⟨sb,(m+1)*2+1,none⟩=some (.int .i64 i.2)) (hm:m<=1000) (hk:o.kind=2) (hi1:i.1≠1) (hn:o.fl.length<=1000) (hth:R.ths.length<=100000000000) :
  Calls prog 183 #[.pointer (some ⟨mb,0,none⟩),.agg #[.int .i64 21,.int .i64 a],.int .i64 (pc:Int),.slice (some ⟨sb,0,none⟩) (m+2) sc] W fun e w'=>C2 0 [] 0 2 W e w':=by
 have HK:=dD h ho hk;have xs:=(fun (_:pc<=1000) (_:o.fl.length<=1000) (_:R.ths.length<=100000000000)=>h.lt _ _ h.me) hpc hn hth;obtain⟨tb,tc,fa,fc,m5,xv,t1,xj,xu,xi⟩:=h.thing ho;have xt:=(L1a.1 ho).1;have xe:(j:Int) < (R.ths.length:Int):=by omega
 have xq:(i.1 == 1)=false:=L2c.2 hi1;generalize hnt:R.ths.length=nt at *
 generalize hnf:o.fl.length=nf at *
 obtain⟨ik,iN⟩:=i;simp only at hi1 xq i0 i1;obtain⟨xg,xn,xk,xb⟩:=S9 (show sb < W.heap.size by omega);obtain⟨xo,xc,xm,xd,xf⟩:=N7 (show mb < W.heap.size by omega);obtain⟨xl,xp,xa,xh,xr⟩:=N7 (show tb < W.heap.size by omega);clear h ho hk xi xj;go_enter func183,ntmps183;go_wp2_with (first | (go_at_call 221;refine CE (HK.out _ P4) ?_) | (go_at_call 218;refine CE (B5 _ _) ?_))
 refine bodyPost_ret (v:=.agg #[.int .i64 0,.slice none 0 0,.int .i64 0,.int .i64 2]) (by simp [results,results183,go_sem]) rfl ?_;exact⟨none,0,rfl,P4,B8 _ _⟩
theorem a4W (h:A8 W own mb g R) {sb m sc j:Nat} {o:ThR} (ho:R.ths[j]?=some o) (i:Val) (a:Int) (pc:Nat) (hpc:pc<=1000) (hsb:sb < W.heap.size) (x0:W.cell? ⟨sb,m*2,none⟩=some (.int .u8 2)) (x1:W.cell? ⟨sb,m*2+1,none⟩=some (.int .i64 (j:Int))) (i0:W.cell? ⟨sb,(m+1)*2,none⟩=some (.int .u8 i.1)) (i1:W.cell? ⟨sb,(m+1)*2+1,none⟩=some (.int .i64 i.2)) (hm:m<=1000) (hk:o.kind=2) (hi1:i.1=1) (hi2:i.2 < 0) (hn:o.fl.length<=1000) (hth:R.ths.length<=100000000000) :
  Calls prog 183 #[.pointer (some ⟨mb,0,none⟩),.agg #[.int .i64 21,.int .i64 a],.int .i64 (pc:Int),.slice (some ⟨sb,0,none⟩) (m+2) sc] W fun e w'=>C2 0 [] 0 3 W e w':=by
 have HK:=dD h ho hk;have xr:=(fun (_:pc<=1000) (_:o.fl.length<=1000) (_:R.ths.length<=100000000000)=>h.lt _ _ h.me) hpc hn hth;obtain⟨tb,tc,fa,fc,m5,xu,t1,xj,xt,xi⟩:=h.thing ho;have xs:=(L1a.1 ho).1;have xe:(j:Int) < (R.ths.length:Int):=by omega
 generalize hnt:R.ths.length=nt at *
 generalize hnf:o.fl.length=nf at *
 obtain⟨ik,iN⟩:=i;simp only at hi1 hi2 i0 i1;obtain⟨xg,xn,xk,xb⟩:=S9 (show sb < W.heap.size by omega);obtain⟨xo,xc,xm,xd,xf⟩:=N7 (show mb < W.heap.size by omega);obtain⟨xl,xp,xa,xh,xq⟩:=N7 (show tb < W.heap.size by omega);clear h ho hk xi xj;subst hi1;go_enter func183,ntmps183;go_wp2_with (first | (go_at_call 221;refine CE (HK.out _ P4) ?_) | (go_at_call 218;refine CE (B5 _ _) ?_))
 go_region
 go_wp2_with (first | (go_at_call 221;refine CE (HK.out _ P4) ?_) | (go_at_call 218;refine CE (B5 _ _) ?_))
 refine bodyPost_ret (v:=.agg #[.int .i64 0,.slice none 0 0,.int .i64 0,.int .i64 3]) (by simp [results,results183,go_sem]) rfl ?_;exact⟨none,0,rfl,P4,B8 _ _⟩
theorem a4V (h:A8 W own mb g R) {sb m sc j:Nat} {o:ThR} (ho:R.ths[j]?=some o) (i:Val) (a:Int) (pc:Nat) (hpc:pc<=1000) (hsb:sb < W.heap.size) (x0:W.cell? ⟨sb,m*2,none⟩=some (.int .u8 2)) (x1:W.cell? ⟨sb,m*2+1,none⟩=some (.int .i64 (j:Int))) (i0:W.cell? ⟨sb,(m+1)*2,none⟩=some (.int .u8 i.1)) (i1:W.cell? ⟨sb,(m+1)*2+1,none⟩=some (.int .i64 i.2)) (hm:m<=1000) (hk:o.kind=2) (hi1:i.1=1) (hi2:0<=i.2) (hi3:(o.fl.length:Int)<=i.2) (hn:o.fl.length<=1000) (hth:R.ths.length<=100000000000) :
  Calls prog 183 #[.pointer (some ⟨mb,0,none⟩),.agg #[.int .i64 21,.int .i64 a],.int .i64 (pc:Int),.slice (some ⟨sb,0,none⟩) (m+2) sc] W fun e w'=>C2 0 [] 0 3 W e w':=by
 have HK:=dD h ho hk;have xr:=(fun (_:pc<=1000) (_:o.fl.length<=1000) (_:R.ths.length<=100000000000)=>h.lt _ _ h.me) hpc hn hth;obtain⟨tb,tc,fa,fc,m5,xu,t1,xj,xt,xi⟩:=h.thing ho;have xs:=(L1a.1 ho).1;have xe:(j:Int) < (R.ths.length:Int):=by omega
 generalize hnt:R.ths.length=nt at *
 generalize hnf:o.fl.length=nf at *
 obtain⟨ik,iN⟩:=i;simp only at hi1 hi2 hi3 i0 i1;obtain⟨xg,xn,xk,xb⟩:=S9 (show sb < W.heap.size by omega);obtain⟨xo,xc,xm,xd,xf⟩:=N7 (show mb < W.heap.size by omega);obtain⟨xl,xp,xa,xh,xq⟩:=N7 (show tb < W.heap.size by omega);clear h ho hk xi xj;subst hi1;go_enter func183,ntmps183;go_wp2_with (first | (go_at_call 221;refine CE (HK.out _ P4) ?_) | (go_at_call 218;refine CE (B5 _ _) ?_))
 go_region
 go_wp2_with (first | (go_at_call 221;refine CE (HK.out _ P4) ?_) | (go_at_call 218;refine CE (B5 _ _) ?_))
 refine bodyPost_ret (v:=.agg #[.int .i64 0,.slice none 0 0,.int .i64 0,.int .i64 3]) (by simp [results,results183,go_sem]) rfl ?_;exact⟨none,0,rfl,P4,B8 _ _⟩
theorem a6j (h:A8 W own mb g R) {sb m sc j:Nat} {o:ThR} (ho:R.ths[j]?=some o) (i:Val) (a:Int) (b:Nat) {z:Val} (pc:Nat) (hpc:pc<=1000) (hsb:sb < W.heap.size) (x0:W.cell? ⟨sb,m*2,none⟩=some (.int .u8 2)) (x1:W.cell? ⟨sb,m*2+1,none⟩=some (.int .i64 (j:Int))) (i0:W.cell? ⟨sb,(m+1)*2,none⟩=some (.int .u8 i.1)) (i1:W.cell? ⟨sb,(m+1)*2+1,none⟩=some (.int .i64 i.2)) (hm:m<=1000) (hk:o.kind=2) (hi1:i=(1,(b:Int))) (hf:o.fl[b]?=some z) (hn:o.fl.length<=1000) (hth:R.ths.length<=100000000000) :
  Calls prog 183 #[.pointer (some ⟨mb,0,none⟩),.agg #[.int .i64 21,.int .i64 a],.int .i64 (pc:Int),.slice (some ⟨sb,0,none⟩) (m+2) sc] W fun e w'=>C2 2 [z] ((pc:Int)+1) 0 W e w':=by
 have HK:=dD h ho hk;have xy:=(fun (_:pc<=1000) (_:o.fl.length<=1000) (_:R.ths.length<=100000000000)=>h.lt _ _ h.me) hpc hn hth;obtain⟨tb,tc,fa,fc,m5,yd,t1,xo,yb,xb⟩:=h.thing ho;have ya:=(L1a.1 ho).1;have xh:(j:Int) < (R.ths.length:Int):=by omega
 have yc:=(L1a.1 hf).1;have xm:(b:Int) < (o.fl.length:Int):=by omega
 obtain⟨fb,rfl,xz,xa⟩:=xb R4;obtain⟨f0,f1⟩:=xa b z hf;obtain⟨zk,zn⟩:=z;simp only at f0 f1;clear xa;subst hi1;obtain⟨xl,xw,xt,xe,xn⟩:=N7 (show fb < W.heap.size by omega);generalize hnt:R.ths.length=nt at *
 generalize hnf:o.fl.length=nf at *
 simp only at i0 i1;obtain⟨xj,xs,xp,xd⟩:=S9 (show sb < W.heap.size by omega);obtain⟨xu,xf,xr,xg,xi⟩:=N7 (show mb < W.heap.size by omega);obtain⟨xq,xv,xc,xk,xx⟩:=N7 (show tb < W.heap.size by omega);clear h ho hk xb xo hf;go_enter func183,ntmps183;go_wp2_with (first | (go_at_call 221;refine CE (HK.out _ P4) ?_) | (go_at_call 218;refine CE (B5 _ _) ?_) | (go_at_call 220;refine CE (L9 _ _ (zk,zn) _ hpc) ?_))
 go_region
 go_wp2_with (first | (go_at_call 221;refine CE (HK.out _ P4) ?_) | (go_at_call 218;refine CE (B5 _ _) ?_) | (go_at_call 220;refine CE (L9 _ _ (zk,zn) _ hpc) ?_))
 refine bodyPost_ret (v:=.agg #[.int .i64 2,.slice (some ⟨W.heap.size+1+1+1+1+1+1+1,0,none⟩) 1 1,.int .i64 ((pc:Int)+1),.int .i64 0]) (by simp [results,results183,go_sem]) rfl ?_;refine⟨_,1,rfl,P4,rfl,L4b ⟨W.heap.size+1+1+1+1+1+1+1,1,#[.int .u8 zk,.int .i64 zn],rfl,by omega,?_,L1c _,by decide,rfl,rfl⟩⟩
 exact B1 R5
theorem xW (h:A8 W own mb g R) {sb m sc j:Nat} {o:ThR} (ho:R.ths[j]?=some o) (i y:Val) (a:Int) (pc:Nat) (hpc:pc<=1000) (hsb:sb < W.heap.size) (x0:W.cell? ⟨sb,m*2,none⟩=some (.int .u8 2)) (x1:W.cell? ⟨sb,m*2+1,none⟩=some (.int .i64 (j:Int))) (i0:W.cell? ⟨sb,(m+1)*2,none⟩=some (.int .u8 i.1)) (i1:W.cell? ⟨sb,(m+1)*2+1,none⟩=some (.int .i64 i.2)) (y0:W.cell? ⟨sb,(m+2)*2,none⟩=some (.int .u8 y.1)) (y1:W.cell? ⟨sb,(m+2)*2+1,none⟩=some (.int .i64 y.2)) (hm:m<=1000) (hk:o.kind=2) (hi1:i.1≠1) (hn:o.fl.length<=1000) (hth:R.ths.length<=100000000000) :
  Calls prog 183 #[.pointer (some ⟨mb,0,none⟩),.agg #[.int .i64 22,.int .i64 a],.int .i64 (pc:Int),.slice (some ⟨sb,0,none⟩) (m+3) sc] W fun e w'=>C2 0 [] 0 2 W e w':=by
 have HK:=dD h ho hk;have xs:=(fun (_:pc<=1000) (_:o.fl.length<=1000) (_:R.ths.length<=100000000000)=>h.lt _ _ h.me) hpc hn hth;obtain⟨tb,tc,fa,fc,m5,xv,t1,xj,xu,xi⟩:=h.thing ho;have xt:=(L1a.1 ho).1;have xe:(j:Int) < (R.ths.length:Int):=by omega
 have xq:(i.1 == 1)=false:=L2c.2 hi1;generalize hnt:R.ths.length=nt at *
 generalize hnf:o.fl.length=nf at *
 obtain⟨ik,iN⟩:=i;obtain⟨yk,yn⟩:=y;simp only at hi1 xq i0 i1 y0 y1;obtain⟨xg,xn,xk,xb⟩:=S9 (show sb < W.heap.size by omega);obtain⟨xo,xc,xm,xd,xf⟩:=N7 (show mb < W.heap.size by omega);obtain⟨xl,xp,xa,xh,xr⟩:=N7 (show tb < W.heap.size by omega);clear h ho hk xi xj;go_enter func183,ntmps183;go_wp2_with (first | (go_at_call 221;refine CE (HK.out _ P4) ?_) | (go_at_call 218;refine CE (B5 _ _) ?_))
 refine bodyPost_ret (v:=.agg #[.int .i64 0,.slice none 0 0,.int .i64 0,.int .i64 2]) (by simp [results,results183,go_sem]) rfl ?_;exact⟨none,0,rfl,P4,B8 _ _⟩
theorem a3v (h:A8 W own mb g R) {sb m sc j:Nat} {o:ThR} (ho:R.ths[j]?=some o) (i y:Val) (a:Int) (pc:Nat) (hpc:pc<=1000) (hsb:sb < W.heap.size) (x0:W.cell? ⟨sb,m*2,none⟩=some (.int .u8 2)) (x1:W.cell? ⟨sb,m*2+1,none⟩=some (.int .i64 (j:Int))) (i0:W.cell? ⟨sb,(m+1)*2,none⟩=some (.int .u8 i.1)) (i1:W.cell? ⟨sb,(m+1)*2+1,none⟩=some (.int .i64 i.2)) (y0:W.cell? ⟨sb,(m+2)*2,none⟩=some (.int .u8 y.1)) (y1:W.cell? ⟨sb,(m+2)*2+1,none⟩=some (.int .i64 y.2)) (hm:m<=1000) (hk:o.kind=2) (hi1:i.1=1) (hi2:i.2 < 0) (hn:o.fl.length<=1000) (hth:R.ths.length<=100000000000) :
  Calls prog 183 #[.pointer (some ⟨mb,0,none⟩),.agg #[.int .i64 22,.int .i64 a],.int .i64 (pc:Int),.slice (some ⟨sb,0,none⟩) (m+3) sc] W fun e w'=>C2 0 [] 0 3 W e w':=by
 have HK:=dD h ho hk;have xr:=(fun (_:pc<=1000) (_:o.fl.length<=1000) (_:R.ths.length<=100000000000)=>h.lt _ _ h.me) hpc hn hth;obtain⟨tb,tc,fa,fc,m5,xu,t1,xj,xt,xi⟩:=h.thing ho;have xs:=(L1a.1 ho).1;have xe:(j:Int) < (R.ths.length:Int):=by omega
 generalize hnt:R.ths.length=nt at *
 generalize hnf:o.fl.length=nf at *
 obtain⟨ik,iN⟩:=i;obtain⟨yk,yn⟩:=y;simp only at hi1 hi2 i0 i1 y0 y1;obtain⟨xg,xn,xk,xb⟩:=S9 (show sb < W.heap.size by omega);obtain⟨xo,xc,xm,xd,xf⟩:=N7 (show mb < W.heap.size by omega);obtain⟨xl,xp,xa,xh,xq⟩:=N7 (show tb < W.heap.size by omega);clear h ho hk xi xj;subst hi1;go_enter func183,ntmps183;go_wp2_with (first | (go_at_call 221;refine CE (HK.out _ P4) ?_) | (go_at_call 218;refine CE (B5 _ _) ?_))
 go_region
 go_wp2_with (first | (go_at_call 221;refine CE (HK.out _ P4) ?_) | (go_at_call 218;refine CE (B5 _ _) ?_))
 refine bodyPost_ret (v:=.agg #[.int .i64 0,.slice none 0 0,.int .i64 0,.int .i64 3]) (by simp [results,results183,go_sem]) rfl ?_;exact⟨none,0,rfl,P4,B8 _ _⟩
theorem a3u (h:A8 W own mb g R) {sb m sc j:Nat} {o:ThR} (ho:R.ths[j]?=some o) (i y:Val) (a:Int) (pc:Nat) (hpc:pc<=1000) (hsb:sb < W.heap.size) (x0:W.cell? ⟨sb,m*2,none⟩=some (.int .u8 2)) (x1:W.cell? ⟨sb,m*2+1,none⟩=some (.int .i64 (j:Int))) (i0:W.cell? ⟨sb,(m+1)*2,none⟩=some (.int .u8 i.1)) (i1:W.cell? ⟨sb,(m+1)*2+1,none⟩=some (.int .i64 i.2)) (y0:W.cell? ⟨sb,(m+2)*2,none⟩=some (.int .u8 y.1)) (y1:W.cell? ⟨sb,(m+2)*2+1,none⟩=some (.int .i64 y.2)) (hm:m<=1000) (hk:o.kind=2) (hi1:i.1=1) (hi2:0<=i.2) (hi3:(o.fl.length:Int)<=i.2) (hn:o.fl.length<=1000) (hth:R.ths.length<=100000000000) :
  Calls prog 183 #[.pointer (some ⟨mb,0,none⟩),.agg #[.int .i64 22,.int .i64 a],.int .i64 (pc:Int),.slice (some ⟨sb,0,none⟩) (m+3) sc] W fun e w'=>C2 0 [] 0 3 W e w':=by
 have HK:=dD h ho hk;have xr:=(fun (_:pc<=1000) (_:o.fl.length<=1000) (_:R.ths.length<=100000000000)=>h.lt _ _ h.me) hpc hn hth;obtain⟨tb,tc,fa,fc,m5,xu,t1,xj,xt,xi⟩:=h.thing ho;have xs:=(L1a.1 ho).1;have xe:(j:Int) < (R.ths.length:Int):=by omega
 generalize hnt:R.ths.length=nt at *
 generalize hnf:o.fl.length=nf at *
 obtain⟨ik,iN⟩:=i;obtain⟨yk,yn⟩:=y;simp only at hi1 hi2 hi3 i0 i1 y0 y1;obtain⟨xg,xn,xk,xb⟩:=S9 (show sb < W.heap.size by omega);obtain⟨xo,xc,xm,xd,xf⟩:=N7 (show mb < W.heap.size by omega);obtain⟨xl,xp,xa,xh,xq⟩:=N7 (show tb < W.heap.size by omega);clear h ho hk xi xj;subst hi1;go_enter func183,ntmps183;go_wp2_with (first | (go_at_call 221;refine CE (HK.out _ P4) ?_) | (go_at_call 218;refine CE (B5 _ _) ?_))
 go_region
 go_wp2_with (first | (go_at_call 221;refine CE (HK.out _ P4) ?_) | (go_at_call 218;refine CE (B5 _ _) ?_))
 refine bodyPost_ret (v:=.agg #[.int .i64 0,.slice none 0 0,.int .i64 0,.int .i64 3]) (by simp [results,results183,go_sem]) rfl ?_;exact⟨none,0,rfl,P4,B8 _ _⟩
theorem a5f {R:RfR} (h:A8 W own mb g R) {sb m sc j:Nat} {o:ThR} (ho:R.ths[j]?=some o) (i y:Val) (a:Int) (b:Nat) {z:Val} (pc:Nat) (hpc:pc<=1000) (hsf':∀b,own b=some (.fld j)->sb≠b) (hsb:sb < W.heap.size) (x0:W.cell? ⟨sb,m*2,none⟩=some (.int .u8 2)) (x1:W.cell? ⟨sb,m*2+1,none⟩=some (.int .i64 (j:Int))) (i0:W.cell? ⟨sb,(m+1)*2,none⟩=some (.int .u8 i.1)) (i1:W.cell? ⟨sb,(m+1)*2+1,none⟩=some (.int .i64 i.2)) (y0:W.cell? ⟨sb,(m+2)*2,none⟩=some (.int .u8 y.1)) (y1:W.cell? ⟨sb,(m+2)*2+1,none⟩=some (.int .i64 y.2)) (hm:m<=1000) (hk:o.kind=2) (hi1:i=(1,(b:Int))) (hf:o.fl[b]?=some z) (hn:o.fl.length<=1000) (hth:R.ths.length<=100000000000) :
  Calls prog 183 #[.pointer (some ⟨mb,0,none⟩),.agg #[.int .i64 22,.int .i64 a],.int .i64 (pc:Int),.slice (some ⟨sb,0,none⟩) (m+3) sc] W fun e w'=>J6 own mb g (fun R'=>R'={ R with ths:=R.ths.set j { o with fl:=o.fl.set b y } }) 3 [] ((pc:Int)+1) 0 W e w':=by
 have HK:=dD h ho hk;have yc:=(fun (_:pc<=1000) (_:o.fl.length<=1000) (_:R.ths.length<=100000000000)=>h.lt _ _ h.me) hpc hn hth;obtain⟨tb,tc,fa,fc,m5,yi,t1,xc,yg,xe⟩:=h.thing ho;have yf:=(L1a.1 ho).1;have xj:(j:Int) < (R.ths.length:Int):=by omega
 have yh:=(L1a.1 hf).1;have xp:(b:Int) < (o.fl.length:Int):=by omega
 obtain⟨fb,rfl,ye,xb⟩:=xe R4;obtain⟨f0,f1⟩:=xb b z hf;have xd:∀q,W.frozen? ⟨fb,q,none⟩=false:=fun q=>qS (h.fld j o ho).1 (by rw [xc];rfl) q
 have z0:=xd (b*2);have z1:=xd (b*2+1);have xa:own fb=some (.fld j):=(h.fld j o ho).2 fb (by rw [xc];rfl);have yd:sb≠fb:=hsf' fb xa;have HA:=hid h;have HO:=hid ho;have HF:=hid hf;have xt:=hid xc;have xz:=hid xa;clear xb xd xa hsf';subst hi1;obtain⟨xo,ya,xw,xh,xq⟩:=N7 (show fb < W.heap.size by omega);generalize hnt:R.ths.length=nt at *
 generalize hnf:o.fl.length=nf at *
 obtain⟨yk,yn⟩:=y;simp only at i0 i1 y0 y1;obtain⟨xm,xv,xr,xg⟩:=S9 (show sb < W.heap.size by omega);obtain⟨xx,xi,xu,xk,xl⟩:=N7 (show mb < W.heap.size by omega);obtain⟨xs,xy,xf,xn,yb⟩:=N7 (show tb < W.heap.size by omega);clear h ho hk xe xc hf;go_enter func183,ntmps183;go_wp2_with (first | (go_at_call 221;refine CE (HK.out _ P4) ?_) | (go_at_call 218;refine CE (B5 _ _) ?_) | (go_at_call 222;refine CE (R8 _ _ _ hpc) ?_))
 go_region
 go_wp2_with (first | (go_at_call 221;refine CE (HK.out _ P4) ?_) | (go_at_call 218;refine CE (B5 _ _) ?_) | (go_at_call 222;refine CE (R8 _ _ _ hpc) ?_))
 go_region
 go_wp2_with (first | (go_at_call 221;refine CE (HK.out _ P4) ?_) | (go_at_call 218;refine CE (B5 _ _) ?_) | (go_at_call 222;refine CE (R8 _ _ _ hpc) ?_))
 obtain⟨hM,hT⟩:=HA.out.putFld (y:=(yk,yn)) HO.out HF.out (by rw [hnf];exact xt.out) xz.out;refine bodyPost_ret (v:=.agg #[.int .i64 3,.slice none 0 0,.int .i64 ((pc:Int)+1),.int .i64 0]) (by simp [results,results183,go_sem]) rfl ?_;exact⟨own,_,none,0,rfl,hM.same P4,rfl,hT.trans (A2.of_below P4),B8 _ _,fun b hb=>by cases hb⟩
end
end Go.Proofs.YtbkmgoffiigdbaaGreatDoor
