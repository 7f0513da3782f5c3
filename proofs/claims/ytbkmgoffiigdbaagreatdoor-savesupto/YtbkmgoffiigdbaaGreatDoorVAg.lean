import Derived.Calls
import Derived.Test.YtbkmgoffiigdbaaGreatDoorVAf
namespace Go.Proofs.YtbkmgoffiigdbaaGreatDoor
set_option maxHeartbeats 2000000
set_option maxRecDepth 100000
section
variable {a n:Nat}
theorem W9 (h:a < n):a < n+1/\a < n+1+1/\a < n+1+1+1/\a < n+1+1+1+1:=by omega
theorem S9 (h:a < n):a < n+1/\a < n+1+1/\a < n+1+1+1/\a < n+1+1+1+1/\a < n+1+1+1+1+1:=by omega
theorem CE {P:Program} {f:FuncId} {args:Array Value} {w u:World} {x:Ending} {R:Ending->World->Prop} (h:Calls P f args w fun e w'=>e=x/\w'=u) (k:R x u):Calls P f args w R:=h.mono fun _ _ q=>q.1▸q.2▸k
end
end Go.Proofs.YtbkmgoffiigdbaaGreatDoor
namespace Go.Proofs.YtbkmgoffiigdbaaGreatDoor
open Go.RowKit Go.Sort Go.Proofs.Tryz
set_option maxHeartbeats 2000000
set_option maxRecDepth 100000
section
variable {R:RfR} {W:World} {g:PgR} {mb:Nat} {own:Own} {v:Val}
theorem X1 (hv:fQ R v) (h:(A1 R.abs.obs v).1≠0):∃(j:Nat) (o:ThR),v=(2,(j:Int))/\R.ths[j]?=some o/\A1 R.abs.obs v=o.abs:=by
 have h2:v.1=2:=Decidable.byContradiction fun h2=>h (by unfold A1;rw [if_neg h2])
 obtain⟨h0,hl⟩:=hv h2;obtain⟨i,hi⟩:=L5c h0;have xa:v.2.toNat=i:=by rw [hi];rfl
 rw[xa] at hl;have ho:R.ths[i]?=some R.ths[i]:=L1b hl;refine⟨i,R.ths[i],Prod.ext h2 hi,ho,?_⟩;unfold A1;rw[if_pos h2,xa,List.getD_eq_getElem?_getD,show R.abs.obs=R.ths.map ThR.abs from rfl,List.getElem?_map,ho];rfl
theorem lT (hv:fQ R v) (h2:v.1=2):∃(j:Nat) (o:ThR),v=(2,(j:Int))/\R.ths[j]?=some o/\A1 R.abs.obs v=o.abs:=by
 obtain⟨h0,hl⟩:=hv h2;obtain⟨i,hi⟩:=L5c h0;have xa:v.2.toNat=i:=by rw [hi];rfl
 rw[xa] at hl;have ho:R.ths[i]?=some R.ths[i]:=L1b hl;refine⟨i,R.ths[i],Prod.ext h2 hi,ho,?_⟩;unfold A1;rw[if_pos h2,xa,List.getD_eq_getElem?_getD,show R.abs.obs=R.ths.map ThR.abs from rfl,List.getElem?_map,ho];rfl
theorem A9.thing (h:A9 W own mb g R) {j:Nat} {o:ThR} (ho:R.ths[j]?=some o):∃tb tc fa fc,W.cell? ⟨mb,5,none⟩=some (.slice (zA tb) R.ths.length tc)/\tb < W.heap.size/\W.cell? ⟨tb,j*3+1,none⟩=some (.slice fa o.fl.length fc)/\o.fv=.slice fa o.fl.length fc/\o.fl.length<=fc/\N7 W W.heap.size fa o.fl:=by
 obtain⟨a,cp,hv,_,hc⟩:=Row.cells ThR.cells_len h.things;have hi:=(L1a.1 ho).1;obtain⟨b,rfl,hb,_,_,xd⟩:=hc R5;obtain⟨fa,fc,xa,xc,xb⟩:=(h.fld j o ho).vals;have t1:=xd j 1 o _ ho R4 rfl;rw[xa] at t1;have m5:=h.c5;rw[hv] at m5;exact⟨b,cp,fa,fc,m5,hb,t1,xa,xc,xb⟩
def K8 (own:Own) (mb:Nat) (g:PgR) (P:RfR->Prop) (drop:Int) (push:List Val) (to trap:Int) (W:World) (e:Ending) (w':World):Prop :=
 ∃own' R' a c,e=.returned (.agg #[J drop,.slice a push.length c,J to,J trap])/\A9 w' own' mb g R'/\P R'/\A2 own W own' w'/\w'.ownsRow W.heap.size 92 2 (.slice a push.length c) push.length (A7 push)/\∀b,(Value.slice a push.length c).ownBlock=some b->own' b=none
theorem D2.toQ (h:A9 W own mb g R) {drop:Int} {push:List Val} {to trap:Int} {e:Ending} {w':World} (hd:D2 drop push to trap W e w'):K8 own mb g (fun R'=>R'=R) drop push to trap W e w':=by
 obtain⟨a,c,rfl,h1,h2⟩:=hd;refine⟨own,R,a,c,rfl,h.same h1,rfl,A2.of_below h1,h2,fun b hb=>?_⟩;have:=(h2.lt b hb).1
 cases e:own b with
 | none=>rfl
 | some t=>have:=h.lt b t e;omega
theorem a3y (h:A9 W own mb g R) {sb m sc:Nat} (x:Val) (a:Int) (pc:Nat) (hsb:sb < W.heap.size) (x0:W.cell? ⟨sb,m*2,none⟩=some (zC x.1)) (x1:W.cell? ⟨sb,m*2+1,none⟩=some (J x.2)) (hm:m<=1000) (hkz:∀o,o∈R.ths->o.kind≠0) (hx:fQ R x) (hk:(A1 R.abs.obs x).1≠1) :
  Calls prog 182 #[zB mb,.agg #[J 19,J a],J (pc:Int),.slice (zA sb) (m+1) sc] W fun e w'=>D2 0 [] 0 2 W e w':=by
 by_cases h0:(A1 R.abs.obs x).1=0
 ·have h2:x.1≠2:=fun h2=>by
   obtain⟨j,o,e,ho,e2⟩:=lT hx h2;rw[e2] at h0;exact hkz o (L2a ho) h0
  have HK:=rL W mb h2;obtain⟨xk,xn⟩:=x;simp only at x0 x1 HK;clear h hkz hx h0 hk h2;obtain⟨xa,xb,xd,xc⟩:=W9 (show sb < W.heap.size by omega);go_enter func182,ntmps182;go_wp2_with (first | (go_at_call 221;refine CE (HK.out _ P4) ?_) | (go_at_call 218;refine CE (B4 _ _) ?_))
  refine bodyPost_ret (v:=.agg #[J 0,zD,J 0,J 2]) (by simp [results,results182,go_sem]) rfl ?_;exact⟨none,0,rfl,P4,B8 _ _⟩
 ·obtain ⟨j,o,rfl,ho,e2⟩:=X1 hx h0
  rw[e2] at hk;have xe:o.kind≠1:=hk;have xf:(o.kind == 1)=false:=L2c.2 xe;have HK:=fZ h ho;generalize o.kind=kd at *
  simp only at x0 x1;clear h hkz hx h0 hk e2 ho;obtain⟨xa,xb,xd,xc⟩:=W9 (show sb < W.heap.size by omega);go_enter func182,ntmps182;go_wp2_with (first | (go_at_call 221;refine CE (HK.out _ P4) ?_) | (go_at_call 218;refine CE (B4 _ _) ?_))
  refine bodyPost_ret (v:=.agg #[J 0,zD,J 0,J 2]) (by simp [results,results182,go_sem]) rfl ?_;exact⟨none,0,rfl,P4,B8 _ _⟩
theorem a3D (h:A9 W own mb g R) {sb m sc:Nat} (x y:Val) (a:Int) (pc:Nat) (hsb:sb < W.heap.size) (x0:W.cell? ⟨sb,m*2,none⟩=some (zC x.1)) (x1:W.cell? ⟨sb,m*2+1,none⟩=some (J x.2)) (y0:W.cell? ⟨sb,(m+1)*2,none⟩=some (zC y.1)) (y1:W.cell? ⟨sb,(m+1)*2+1,none⟩=some (J y.2)) (hm:m<=1000) (hkz:∀o,o∈R.ths->o.kind≠0) (hx:fQ R x) (hk:(A1 R.abs.obs x).1≠1) :
  Calls prog 182 #[zB mb,.agg #[J 20,J a],J (pc:Int),.slice (zA sb) (m+2) sc] W fun e w'=>D2 0 [] 0 2 W e w':=by
 by_cases h0:(A1 R.abs.obs x).1=0
 ·have h2:x.1≠2:=fun h2=>by
   obtain⟨j,o,e,ho,e2⟩:=lT hx h2;rw[e2] at h0;exact hkz o (L2a ho) h0
  have HK:=rL W mb h2;obtain⟨xk,xn⟩:=x;simp only at x0 x1 HK;obtain⟨yk,yn⟩:=y;simp only at y0 y1;clear h hkz hx h0 hk h2;obtain⟨xa,xb,xd,xc⟩:=W9 (show sb < W.heap.size by omega);go_enter func182,ntmps182;go_wp2_with (first | (go_at_call 221;refine CE (HK.out _ P4) ?_) | (go_at_call 218;refine CE (B4 _ _) ?_))
  refine bodyPost_ret (v:=.agg #[J 0,zD,J 0,J 2]) (by simp [results,results182,go_sem]) rfl ?_;exact⟨none,0,rfl,P4,B8 _ _⟩
 ·obtain ⟨j,o,rfl,ho,e2⟩:=X1 hx h0
  rw[e2] at hk;have xe:o.kind≠1:=hk;have xf:(o.kind == 1)=false:=L2c.2 xe;have HK:=fZ h ho;generalize o.kind=kd at *
  simp only at x0 x1;obtain⟨yk,yn⟩:=y;simp only at y0 y1;clear h hkz hx h0 hk e2 ho;obtain⟨xa,xb,xd,xc⟩:=W9 (show sb < W.heap.size by omega);go_enter func182,ntmps182;go_wp2_with (first | (go_at_call 221;refine CE (HK.out _ P4) ?_) | (go_at_call 218;refine CE (B4 _ _) ?_))
  refine bodyPost_ret (v:=.agg #[J 0,zD,J 0,J 2]) (by simp [results,results182,go_sem]) rfl ?_;exact⟨none,0,rfl,P4,B8 _ _⟩
theorem a0Q (h:A9 W own mb g R) {sb m sc j:Nat} {o:ThR} (ho:R.ths[j]?=some o) (a:Int) (pc:Nat) (hpc:pc<=1000) (hsb:sb < W.heap.size) (x0:W.cell? ⟨sb,m*2,none⟩=some (zC 2)) (x1:W.cell? ⟨sb,m*2+1,none⟩=some (J (j:Int))) (hm:m<=1000) (hk:o.kind=1) (hle:(o.fl.length:Int)<=a) (hn:o.fl.length<=1000) (hth:R.ths.length<=100000000000) :
  Calls prog 182 #[zB mb,.agg #[J 19,J a],J (pc:Int),.slice (zA sb) (m+1) sc] W fun e w'=>D2 0 [] 0 3 W e w':=by
 have HK:=fJ h ho hk;have xu:=(fun (_:pc<=1000) (_:o.fl.length<=1000) (_:R.ths.length<=100000000000)=>h.lt _ _ h.me) hpc hn hth;obtain⟨tb,tc,fa,fc,m5,xr,t1,xq,xs,xd⟩:=h.thing ho;have xt:=(L1a.1 ho).1;have xl:(j:Int) < (R.ths.length:Int):=by omega
 generalize hnt:R.ths.length=nt at *
 generalize hnf:o.fl.length=nf at *
 obtain⟨xm,xg,xp,xh⟩:=W9 (show sb < W.heap.size by omega);obtain⟨xe,xo,xc,xb,xn⟩:=S9 (show mb < W.heap.size by omega);obtain⟨xf,xk,xa,xj,xi⟩:=S9 (show tb < W.heap.size by omega);clear h ho hk xd xq hpc;go_enter func182,ntmps182;go_wp2_with (first | (go_at_call 221;refine CE (HK.out _ P4) ?_) | (go_at_call 218;refine CE (B4 _ _) ?_))
 go_region
 go_wp2_with (first | (go_at_call 221;refine CE (HK.out _ P4) ?_) | (go_at_call 218;refine CE (B4 _ _) ?_))
 refine bodyPost_ret (v:=.agg #[J 0,zD,J 0,J 3]) (by simp [results,results182,go_sem]) rfl ?_;exact⟨none,0,rfl,P4,B8 _ _⟩
theorem a7Q (h:A9 W own mb g R) {sb m sc j:Nat} {o:ThR} (ho:R.ths[j]?=some o) (a:Nat) {y:Val} (pc:Nat) (hpc:pc<=1000) (hsb:sb < W.heap.size) (x0:W.cell? ⟨sb,m*2,none⟩=some (zC 2)) (x1:W.cell? ⟨sb,m*2+1,none⟩=some (J (j:Int))) (hm:m<=1000) (hk:o.kind=1) (hf:o.fl[a]?=some y) (hn:o.fl.length<=1000) (hth:R.ths.length<=100000000000) :
  Calls prog 182 #[zB mb,.agg #[J 19,J (a:Int)],J (pc:Int),.slice (zA sb) (m+1) sc] W fun e w'=>D2 1 [y] ((pc:Int)+1) 0 W e w':=by
 have HK:=fJ h ho hk;have yc:=(fun (_:pc<=1000) (_:o.fl.length<=1000) (_:R.ths.length<=100000000000)=>h.lt _ _ h.me) hpc hn hth;obtain⟨tb,tc,fa,fc,m5,xy,t1,xx,xz,xb⟩:=h.thing ho;have yb:=(L1a.1 ho).1;have xp:(j:Int) < (R.ths.length:Int):=by omega
 have yd:=(L1a.1 hf).1;have xj:(a:Int) < (o.fl.length:Int):=by omega
 obtain⟨fb,rfl,ya,xa⟩:=xb R5;obtain⟨f0,f1⟩:=xa a y hf;obtain⟨yk,yn⟩:=y;simp only at f0 f1;clear xa;obtain⟨xt,xf,xl,xs,xr⟩:=S9 (show fb < W.heap.size by omega);generalize hnt:R.ths.length=nt at *
 generalize hnf:o.fl.length=nf at *
 obtain⟨xq,xi,xw,xk⟩:=W9 (show sb < W.heap.size by omega);obtain⟨xg,xv,xe,xd,xu⟩:=S9 (show mb < W.heap.size by omega);obtain⟨xh,xo,xc,xn,xm⟩:=S9 (show tb < W.heap.size by omega);clear h ho hk xb xx hf;go_enter func182,ntmps182;go_wp2_with (first | (go_at_call 221;refine CE (HK.out _ P4) ?_) | (go_at_call 218;refine CE (B4 _ _) ?_) | (go_at_call 220;refine CE (O0 _ _ (yk,yn) _ hpc) ?_))
 go_region
 go_wp2_with (first | (go_at_call 221;refine CE (HK.out _ P4) ?_) | (go_at_call 218;refine CE (B4 _ _) ?_) | (go_at_call 220;refine CE (O0 _ _ (yk,yn) _ hpc) ?_))
 refine bodyPost_ret (v:=.agg #[J 1,.slice (some ⟨W.heap.size+1+1+1+1+1+1,0,none⟩) 1 1,J ((pc:Int)+1),J 0]) (by simp [results,results182,go_sem]) rfl ?_;refine⟨_,1,rfl,P4,rfl,L4b ⟨W.heap.size+1+1+1+1+1+1,1,#[zC yk,J yn],rfl,by omega,?_,L1c _,by decide,rfl,rfl⟩⟩
 exact B0 R6
theorem a0T (h:A9 W own mb g R) {sb m sc j:Nat} {o:ThR} (ho:R.ths[j]?=some o) (y:Val) (a:Int) (pc:Nat) (hpc:pc<=1000) (hsb:sb < W.heap.size) (x0:W.cell? ⟨sb,m*2,none⟩=some (zC 2)) (x1:W.cell? ⟨sb,m*2+1,none⟩=some (J (j:Int))) (y0:W.cell? ⟨sb,(m+1)*2,none⟩=some (zC y.1)) (y1:W.cell? ⟨sb,(m+1)*2+1,none⟩=some (J y.2)) (hm:m<=1000) (hk:o.kind=1) (hle:(o.fl.length:Int)<=a) (hn:o.fl.length<=1000) (hth:R.ths.length<=100000000000) :
  Calls prog 182 #[zB mb,.agg #[J 20,J a],J (pc:Int),.slice (zA sb) (m+2) sc] W fun e w'=>D2 0 [] 0 3 W e w':=by
 have HK:=fJ h ho hk;have xu:=(fun (_:pc<=1000) (_:o.fl.length<=1000) (_:R.ths.length<=100000000000)=>h.lt _ _ h.me) hpc hn hth;obtain⟨tb,tc,fa,fc,m5,xr,t1,xq,xs,xd⟩:=h.thing ho;have xt:=(L1a.1 ho).1;have xl:(j:Int) < (R.ths.length:Int):=by omega
 generalize hnt:R.ths.length=nt at *
 generalize hnf:o.fl.length=nf at *
 obtain⟨yk,yn⟩:=y;simp only at y0 y1;obtain⟨xm,xg,xp,xh⟩:=W9 (show sb < W.heap.size by omega);obtain⟨xe,xo,xc,xb,xn⟩:=S9 (show mb < W.heap.size by omega);obtain⟨xf,xk,xa,xj,xi⟩:=S9 (show tb < W.heap.size by omega);clear h ho hk xd xq hpc;go_enter func182,ntmps182;go_wp2_with (first | (go_at_call 221;refine CE (HK.out _ P4) ?_) | (go_at_call 218;refine CE (B4 _ _) ?_))
 go_region
 go_wp2_with (first | (go_at_call 221;refine CE (HK.out _ P4) ?_) | (go_at_call 218;refine CE (B4 _ _) ?_))
 refine bodyPost_ret (v:=.agg #[J 0,zD,J 0,J 3]) (by simp [results,results182,go_sem]) rfl ?_;exact⟨none,0,rfl,P4,B8 _ _⟩
theorem a7T {R:RfR} (h:A9 W own mb g R) {sb m sc j:Nat} {o:ThR} (ho:R.ths[j]?=some o) (y:Val) (a:Nat) {z:Val} (pc:Nat) (hpc:pc<=1000) (hsf':∀b,own b=some (.fld j)->sb≠b) (hsb:sb < W.heap.size) (x0:W.cell? ⟨sb,m*2,none⟩=some (zC 2)) (x1:W.cell? ⟨sb,m*2+1,none⟩=some (J (j:Int))) (y0:W.cell? ⟨sb,(m+1)*2,none⟩=some (zC y.1)) (y1:W.cell? ⟨sb,(m+1)*2+1,none⟩=some (J y.2)) (hm:m<=1000) (hk:o.kind=1) (hf:o.fl[a]?=some z) (hn:o.fl.length<=1000) (hth:R.ths.length<=100000000000) :
  Calls prog 182 #[zB mb,.agg #[J 20,J (a:Int)],J (pc:Int),.slice (zA sb) (m+2) sc] W fun e w'=>K8 own mb g (fun R'=>R'={ R with ths:=R.ths.set j { o with fl:=o.fl.set a y } }) 2 [] ((pc:Int)+1) 0 W e w':=by
 have HK:=fJ h ho hk;have yg:=(fun (_:pc<=1000) (_:o.fl.length<=1000) (_:R.ths.length<=100000000000)=>h.lt _ _ h.me) hpc hn hth;obtain⟨tb,tc,fa,fc,m5,yc,t1,xc,yd,xe⟩:=h.thing ho;have yf:=(L1a.1 ho).1;have xs:(j:Int) < (R.ths.length:Int):=by omega
 have yi:=(L1a.1 hf).1;have xm:(a:Int) < (o.fl.length:Int):=by omega
 obtain⟨fb,rfl,ye,xb⟩:=xe R5;obtain⟨f0,f1⟩:=xb a z hf;have xd:∀q,W.frozen? ⟨fb,q,none⟩=false:=fun q=>tY (h.fld j o ho).1 (by rw [xc];rfl) q
 have z0:=xd (a*2);have z1:=xd (a*2+1);have xa:own fb=some (.fld j):=(h.fld j o ho).2 fb (by rw [xc];rfl);have yh:sb≠fb:=hsf' fb xa;have HA:=hid h;have HO:=hid ho;have HF:=hid hf;have ya:=hid xc;have yb:=hid xa;clear xb xd xa hsf';obtain⟨xw,xi,xo,xv,xu⟩:=S9 (show fb < W.heap.size by omega);generalize hnt:R.ths.length=nt at *
 generalize hnf:o.fl.length=nf at *
 obtain⟨yk,yn⟩:=y;simp only at y0 y1;obtain⟨xt,xl,xz,xn⟩:=W9 (show sb < W.heap.size by omega);obtain⟨xj,xy,xh,xg,xx⟩:=S9 (show mb < W.heap.size by omega);obtain⟨xk,xr,xf,xq,xp⟩:=S9 (show tb < W.heap.size by omega);clear h ho hk xe xc hf;go_enter func182,ntmps182;go_wp2_with (first | (go_at_call 221;refine CE (HK.out _ P4) ?_) | (go_at_call 218;refine CE (B4 _ _) ?_) | (go_at_call 222;refine CE (W6 _ _ _ hpc) ?_))
 go_region
 go_wp2_with (first | (go_at_call 221;refine CE (HK.out _ P4) ?_) | (go_at_call 218;refine CE (B4 _ _) ?_) | (go_at_call 222;refine CE (W6 _ _ _ hpc) ?_))
 go_region
 go_wp2_with (first | (go_at_call 221;refine CE (HK.out _ P4) ?_) | (go_at_call 218;refine CE (B4 _ _) ?_) | (go_at_call 222;refine CE (W6 _ _ _ hpc) ?_))
 obtain⟨hM,hT⟩:=HA.out.putFld (y:=(yk,yn)) HO.out HF.out (by rw [hnf];exact ya.out) yb.out;refine bodyPost_ret (v:=.agg #[J 2,zD,J ((pc:Int)+1),J 0]) (by simp [results,results182,go_sem]) rfl ?_;exact⟨own,_,none,0,rfl,hM.same P4,rfl,hT.trans (A2.of_below P4),B8 _ _,fun b hb=>by cases hb⟩
end
section
variable {W:World} {la sa:Option Addr} {lc m mb nl sb sc:Nat}
theorem a3K (b:Bool) (W:World):Calls prog 223 #[.bool b] W fun e w'=>e=.returned (.agg #[zC 1,J (D6 b)])/\w'=(W.alloc (Obj.cells #[zC 1,J (D6 b)] 92)).alloc (Obj.cells #[zC 1,J (D6 b)] 92):=by
 cases b
 ·go_enter func223,ntmps223
  go_wp2_with (go_at_call 215;refine CE (fA _ _) ?_)
  refine bodyPost_ret (v:=.agg #[zC 1,J (D6 false)]) (by simp [results,results223,go_sem,D6]) rfl ?_;exact⟨rfl,rfl⟩
 ·go_enter func223,ntmps223
  go_wp2_with (go_at_call 215;refine CE (fA _ _) ?_)
  refine bodyPost_ret (v:=.agg #[zC 1,J (D6 true)]) (by simp [results,results223,go_sem,D6]) rfl ?_;exact⟨rfl,rfl⟩
theorem a9i (fn:Nat) (a:Int) (pc:Nat) (hpc:pc<=1000) (hm:m<=1000) :
  Calls prog 185 #[zB mb,.agg #[J 0,J a],J (pc:Int),.agg #[J (fn:Int),J (pc:Int),.slice la nl lc,.slice sa m sc]] W fun e w'=>D2 0 [(1,a)] ((pc:Int)+1) 0 W e w':=by
 have xa:=(fun (_:m<=1000)=>hpc) hm;go_enter func185,ntmps185;go_wp2_with (first | (go_at_call 215;refine CE (fA _ _) ?_) | (go_at_call 220;refine CE (O0 _ _ (1,a) _ hpc) ?_))
 refine bodyPost_ret (v:=.agg #[J 0,.slice (some ⟨W.heap.size+1+1+1+1+1+1,0,none⟩) 1 1,J ((pc:Int)+1),J 0]) (by simp [results,results185,go_sem]) rfl ?_;refine⟨_,1,rfl,P4,rfl,L4b ⟨W.heap.size+1+1+1+1+1+1,1,#[zC 1,J a],rfl,by omega,?_,L1c _,by decide,rfl,rfl⟩⟩
 exact B0 R6
theorem a9j (fn:Nat) (a:Int) (pc:Nat) (hpc:pc<=1000) (hm:m<=1000) :
  Calls prog 185 #[zB mb,.agg #[J 1,J a],J (pc:Int),.agg #[J (fn:Int),J (pc:Int),.slice la nl lc,.slice sa m sc]] W fun e w'=>D2 0 [(0,0)] ((pc:Int)+1) 0 W e w':=by
 have xa:=(fun (_:m<=1000)=>hpc) hm;go_enter func185,ntmps185;go_wp2_with (first | (go_at_call 220;refine CE (O0 _ _ (0,0) _ hpc) ?_))
 refine bodyPost_ret (v:=.agg #[J 0,.slice (some ⟨W.heap.size+1+1+1+1+1,0,none⟩) 1 1,J ((pc:Int)+1),J 0]) (by simp [results,results185,go_sem]) rfl ?_;refine⟨_,1,rfl,P4,rfl,L4b ⟨W.heap.size+1+1+1+1+1,1,#[zC 0,J 0],rfl,by omega,?_,L1c _,by decide,rfl,rfl⟩⟩
 exact B0 R6
theorem a9h (fn:Nat) (x:Val) (a:Int) (pc:Nat) (hpc:pc<=1000) (hsb:sb < W.heap.size) (x0:W.cell? ⟨sb,m*2,none⟩=some (zC x.1)) (x1:W.cell? ⟨sb,m*2+1,none⟩=some (J x.2)) (hm:m<=1000) :
  Calls prog 185 #[zB mb,.agg #[J 4,J a],J (pc:Int),.agg #[J (fn:Int),J (pc:Int),.slice la nl lc,.slice (zA sb) (m+1) sc]] W fun e w'=>D2 0 [x] ((pc:Int)+1) 0 W e w':=by
 have xe:=(fun (_:m<=1000)=>hpc) hm;obtain⟨xk,xn⟩:=x;simp only at x0 x1;obtain⟨xa,xb,xd,xc⟩:=W9 (show sb < W.heap.size by omega);go_enter func185,ntmps185;go_wp2_with (first | (go_at_call 220;refine CE (O0 _ _ (xk,xn) _ hpc) ?_))
 refine bodyPost_ret (v:=.agg #[J 0,.slice (some ⟨W.heap.size+1+1+1+1+1,0,none⟩) 1 1,J ((pc:Int)+1),J 0]) (by simp [results,results185,go_sem]) rfl ?_;refine⟨_,1,rfl,P4,rfl,L4b ⟨W.heap.size+1+1+1+1+1,1,#[zC xk,J xn],rfl,by omega,?_,L1c _,by decide,rfl,rfl⟩⟩
 exact B0 R6
theorem a9k (fn:Nat) (x:Val) (a:Int) (pc:Nat) (hpc:pc<=1000) (hsb:sb < W.heap.size) (x0:W.cell? ⟨sb,m*2,none⟩=some (zC x.1)) (x1:W.cell? ⟨sb,m*2+1,none⟩=some (J x.2)) (hm:m<=1000) :
  Calls prog 185 #[zB mb,.agg #[J 5,J a],J (pc:Int),.agg #[J (fn:Int),J (pc:Int),.slice la nl lc,.slice (zA sb) (m+1) sc]] W fun e w'=>D2 1 [] ((pc:Int)+1) 0 W e w':=by
 have xe:=(fun (_:m<=1000)=>hpc) hm;obtain⟨xk,xn⟩:=x;simp only at x0 x1;obtain⟨xa,xb,xd,xc⟩:=W9 (show sb < W.heap.size by omega);go_enter func185,ntmps185;go_wp2_with (first | (go_at_call 222;refine CE (W6 _ _ _ hpc) ?_))
 refine bodyPost_ret (v:=.agg #[J 1,zD,J ((pc:Int)+1),J 0]) (by simp [results,results185,go_sem]) rfl ?_;exact⟨none,0,rfl,P4,B8 _ _⟩
theorem a6b (fn:Nat) (x:Val) (a:Int) (pc:Nat) (hpc:pc<=1000) (hsb:sb < W.heap.size) (x0:W.cell? ⟨sb,m*2,none⟩=some (zC x.1)) (x1:W.cell? ⟨sb,m*2+1,none⟩=some (J x.2)) (hm:m<=1000) :
  Calls prog 185 #[zB mb,.agg #[J 25,J a],J (pc:Int),.agg #[J (fn:Int),J (pc:Int),.slice la nl lc,.slice (zA sb) (m+1) sc]] W fun e w'=>D2 1 [(1,D6 (x.1 == 2))] ((pc:Int)+1) 0 W e w':=by
 have xe:=(fun (_:m<=1000)=>hpc) hm;obtain⟨xk,xn⟩:=x;simp only at x0 x1;obtain⟨xa,xb,xd,xc⟩:=W9 (show sb < W.heap.size by omega);go_enter func185,ntmps185;go_wp2_with (first | (go_at_call 223;refine CE (a3K _ _) ?_) | (go_at_call 220;refine CE (O0 _ _ (1,(D6 (xk == 2))) _ hpc) ?_))
 refine bodyPost_ret (v:=.agg #[J 1,.slice (some ⟨W.heap.size+1+1+1+1+1+1+1,0,none⟩) 1 1,J ((pc:Int)+1),J 0]) (by simp [results,results185,go_sem]) rfl ?_;refine⟨_,1,rfl,P4,rfl,L4b ⟨W.heap.size+1+1+1+1+1+1+1,1,#[zC 1,J (D6 (xk == 2))],rfl,by omega,?_,L1c _,by decide,rfl,rfl⟩⟩
 exact B0 R6
theorem a7U (fn:Nat) (a:Int) (pc:Nat) (hpc:pc<=1000) (hm:m<=1000) :
  Calls prog 185 #[zB mb,.agg #[J 12,J a],J (pc:Int),.agg #[J (fn:Int),J (pc:Int),.slice la nl lc,.slice sa m sc]] W fun e w'=>D2 0 [] a 0 W e w':=by
 have xa:=(fun (_:m<=1000)=>hpc) hm;go_enter func185,ntmps185;go_wp2_with (first | fail)
 refine bodyPost_ret (v:=.agg #[J 0,zD,J a,J 0]) (by simp [results,results185,go_sem]) rfl ?_;exact⟨none,0,rfl,P4,B8 _ _⟩
theorem a3G (fn:Nat) (x:Val) (a:Int) (pc:Nat) (hpc:pc<=1000) (hsb:sb < W.heap.size) (x0:W.cell? ⟨sb,m*2,none⟩=some (zC x.1)) (x1:W.cell? ⟨sb,m*2+1,none⟩=some (J x.2)) (hm:m<=1000) (h2:x.1=2) :
  Calls prog 185 #[zB mb,.agg #[J 13,J a],J (pc:Int),.agg #[J (fn:Int),J (pc:Int),.slice la nl lc,.slice (zA sb) (m+1) sc]] W fun e w'=>D2 1 [] ((pc:Int)+1) 0 W e w':=by
 have xf:=(fun (_:m<=1000)=>hpc) hm;obtain⟨xk,xn⟩:=x;simp only at x0 x1;obtain⟨xb,xc,xe,xd⟩:=W9 (show sb < W.heap.size by omega);have xa:xk=2:=h2;subst xa;clear h2;go_enter func185,ntmps185;go_wp2_with (first | (go_at_call 222;refine CE (W6 _ _ _ hpc) ?_))
 refine bodyPost_ret (v:=.agg #[J 1,zD,J ((pc:Int)+1),J 0]) (by simp [results,results185,go_sem]) rfl ?_;exact⟨none,0,rfl,P4,B8 _ _⟩
theorem a3F (fn:Nat) (x:Val) (a:Int) (pc:Nat) (hpc:pc<=1000) (hsb:sb < W.heap.size) (x0:W.cell? ⟨sb,m*2,none⟩=some (zC x.1)) (x1:W.cell? ⟨sb,m*2+1,none⟩=some (J x.2)) (hm:m<=1000) (h2:x.1≠2) (h3:x.2≠0) :
  Calls prog 185 #[zB mb,.agg #[J 13,J a],J (pc:Int),.agg #[J (fn:Int),J (pc:Int),.slice la nl lc,.slice (zA sb) (m+1) sc]] W fun e w'=>D2 1 [] ((pc:Int)+1) 0 W e w':=by
 have xf:=(fun (_:m<=1000)=>hpc) hm;obtain⟨xk,xn⟩:=x;simp only at x0 x1;obtain⟨xb,xc,xe,xd⟩:=W9 (show sb < W.heap.size by omega);have xa:¬xk=2:=h2;have xg:¬xn=0:=h3;have xh:(xk == 2)=false:=L2c.2 xa;have xi:(xn == 0)=false:=L2c.2 xg;clear h2 h3;go_enter func185,ntmps185;go_wp2_with (first | (go_at_call 222;refine CE (W6 _ _ _ hpc) ?_))
 refine bodyPost_ret (v:=.agg #[J 1,zD,J ((pc:Int)+1),J 0]) (by simp [results,results185,go_sem]) rfl ?_;exact⟨none,0,rfl,P4,B8 _ _⟩
theorem a0U (fn:Nat) (x:Val) (a:Int) (pc:Nat) (hpc:pc<=1000) (hsb:sb < W.heap.size) (x0:W.cell? ⟨sb,m*2,none⟩=some (zC x.1)) (x1:W.cell? ⟨sb,m*2+1,none⟩=some (J x.2)) (hm:m<=1000) (h2:x.1≠2) (h3:x.2=0) :
  Calls prog 185 #[zB mb,.agg #[J 13,J a],J (pc:Int),.agg #[J (fn:Int),J (pc:Int),.slice la nl lc,.slice (zA sb) (m+1) sc]] W fun e w'=>D2 1 [] a 0 W e w':=by
 have xf:=(fun (_:m<=1000)=>hpc) hm;obtain⟨xk,xn⟩:=x;simp only at x0 x1;obtain⟨xb,xc,xe,xd⟩:=W9 (show sb < W.heap.size by omega);have xa:¬xk=2:=h2;have xg:xn=0:=h3;have xh:(xk == 2)=false:=L2c.2 xa;subst xg;clear h2 h3;go_enter func185,ntmps185;go_wp2_with (first | fail)
 refine bodyPost_ret (v:=.agg #[J 1,zD,J a,J 0]) (by simp [results,results185,go_sem]) rfl ?_;exact⟨none,0,rfl,P4,B8 _ _⟩
theorem a7V (fn:Nat) (b:Nat) {lb:Nat} (y:Val) (pc:Nat) (hpc:pc<=1000) (hm:m<=1000) (hlb:lb < W.heap.size) (y0:W.cell? ⟨lb,b*2,none⟩=some (zC y.1)) (y1:W.cell? ⟨lb,b*2+1,none⟩=some (J y.2)) (hb:b < nl) (hnl:nl<=1000) :
  Calls prog 185 #[zB mb,.agg #[J 2,J (b:Int)],J (pc:Int),.agg #[J (fn:Int),J (pc:Int),.slice (zA lb) nl lc,.slice sa m sc]] W fun e w'=>D2 0 [y] ((pc:Int)+1) 0 W e w':=by
 have xd:=(fun (_:m<=1000)=>hpc) hm;obtain⟨yk,yn⟩:=y;simp only at y0 y1;have xf:(b:Int) < (nl:Int):=(fun (_:nl<=1000)=>by omega) hnl;obtain⟨xa,xe,xb,xc⟩:=W9 (show lb < W.heap.size by omega);go_enter func185,ntmps185;go_wp2_with (first | (go_at_call 220;refine CE (O0 _ _ (yk,yn) _ hpc) ?_))
 refine bodyPost_ret (v:=.agg #[J 0,.slice (some ⟨W.heap.size+1+1+1+1+1,0,none⟩) 1 1,J ((pc:Int)+1),J 0]) (by simp [results,results185,go_sem]) rfl ?_;refine⟨_,1,rfl,P4,rfl,L4b ⟨W.heap.size+1+1+1+1+1,1,#[zC yk,J yn],rfl,by omega,?_,L1c _,by decide,rfl,rfl⟩⟩
 exact B0 R6
theorem a7X (fn:Nat) (x y:Val) (a:Int) (pc:Nat) (hpc:pc<=1000) (hsb:sb < W.heap.size) (x0:W.cell? ⟨sb,m*2,none⟩=some (zC x.1)) (x1:W.cell? ⟨sb,m*2+1,none⟩=some (J x.2)) (y0:W.cell? ⟨sb,(m+1)*2,none⟩=some (zC y.1)) (y1:W.cell? ⟨sb,(m+1)*2+1,none⟩=some (J y.2)) (hm:m<=1000) :
  Calls prog 185 #[zB mb,.agg #[J 6,J a],J (pc:Int),.agg #[J (fn:Int),J (pc:Int),.slice la nl lc,.slice (zA sb) (m+2) sc]] W fun e w'=>D2 2 [y,x] ((pc:Int)+1) 0 W e w':=by
 have xe:=(fun (_:m<=1000)=>hpc) hm;obtain⟨xk,xn⟩:=x;obtain⟨yk,yn⟩:=y;simp only at x0 x1 y0 y1;obtain⟨xa,xb,xd,xc⟩:=W9 (show sb < W.heap.size by omega);go_enter func185,ntmps185;go_wp2_with fail;go_region
 go_wp2_with fail;refine bodyPost_ret (v:=.agg #[J 2,.slice (some ⟨W.heap.size+1+1+1,0,none⟩) 2 2,J ((pc:Int)+1),J 0]) (by simp [results,results185,go_sem]) rfl ?_;refine⟨_,2,rfl,P4,rfl,L4b ⟨W.heap.size+1+1+1,2,#[zC yk,J yn,zC xk,J xn],rfl,by omega,?_,L1c _,by decide,rfl,rfl⟩⟩
 exact B0 R6
end
section
variable {R:RfR} {W:World} {g:PgR} {mb:Nat} {own:Own}
theorem a5M (h:A9 W own mb g R) {sb m sc:Nat} (x i:Val) (a:Int) (pc:Nat) (hsb:sb < W.heap.size) (x0:W.cell? ⟨sb,m*2,none⟩=some (zC x.1)) (x1:W.cell? ⟨sb,m*2+1,none⟩=some (J x.2)) (i0:W.cell? ⟨sb,(m+1)*2,none⟩=some (zC i.1)) (i1:W.cell? ⟨sb,(m+1)*2+1,none⟩=some (J i.2)) (hm:m<=1000) (hkz:∀o,o∈R.ths->o.kind≠0) (hx:fQ R x) (hk:(A1 R.abs.obs x).1≠2) :
  Calls prog 183 #[zB mb,.agg #[J 21,J a],J (pc:Int),.slice (zA sb) (m+2) sc] W fun e w'=>D2 0 [] 0 2 W e w':=by
 by_cases h0:(A1 R.abs.obs x).1=0
 ·have h2:x.1≠2:=fun h2=>by
   obtain⟨j,o,e,ho,e2⟩:=lT hx h2;rw[e2] at h0;exact hkz o (L2a ho) h0
  have HK:=rL W mb h2;obtain⟨xk,xn⟩:=x;simp only at x0 x1 HK;obtain⟨ik,iN⟩:=i;simp only at i0 i1;clear h hkz hx h0 hk h2;obtain⟨xa,xb,xd,xc⟩:=W9 (show sb < W.heap.size by omega);go_enter func183,ntmps183;go_wp2_with (first | (go_at_call 221;refine CE (HK.out _ P4) ?_) | (go_at_call 218;refine CE (B4 _ _) ?_))
  refine bodyPost_ret (v:=.agg #[J 0,zD,J 0,J 2]) (by simp [results,results183,go_sem]) rfl ?_;exact⟨none,0,rfl,P4,B8 _ _⟩
 ·obtain ⟨j,o,rfl,ho,e2⟩:=X1 hx h0
  rw[e2] at hk;have xe:o.kind≠2:=hk;have xf:(o.kind == 2)=false:=L2c.2 xe;have HK:=fZ h ho;generalize o.kind=kd at *
  simp only at x0 x1;obtain⟨ik,iN⟩:=i;simp only at i0 i1;clear h hkz hx h0 hk e2 ho;obtain⟨xa,xb,xd,xc⟩:=W9 (show sb < W.heap.size by omega);go_enter func183,ntmps183;go_wp2_with (first | (go_at_call 221;refine CE (HK.out _ P4) ?_) | (go_at_call 218;refine CE (B4 _ _) ?_))
  refine bodyPost_ret (v:=.agg #[J 0,zD,J 0,J 2]) (by simp [results,results183,go_sem]) rfl ?_;exact⟨none,0,rfl,P4,B8 _ _⟩
theorem a3I (h:A9 W own mb g R) {sb m sc:Nat} (x i y:Val) (a:Int) (pc:Nat) (hsb:sb < W.heap.size) (x0:W.cell? ⟨sb,m*2,none⟩=some (zC x.1)) (x1:W.cell? ⟨sb,m*2+1,none⟩=some (J x.2)) (i0:W.cell? ⟨sb,(m+1)*2,none⟩=some (zC i.1)) (i1:W.cell? ⟨sb,(m+1)*2+1,none⟩=some (J i.2)) (y0:W.cell? ⟨sb,(m+2)*2,none⟩=some (zC y.1)) (y1:W.cell? ⟨sb,(m+2)*2+1,none⟩=some (J y.2)) (hm:m<=1000) (hkz:∀o,o∈R.ths->o.kind≠0) (hx:fQ R x) (hk:(A1 R.abs.obs x).1≠2) :
  Calls prog 183 #[zB mb,.agg #[J 22,J a],J (pc:Int),.slice (zA sb) (m+3) sc] W fun e w'=>D2 0 [] 0 2 W e w':=by
 by_cases h0:(A1 R.abs.obs x).1=0
 ·have h2:x.1≠2:=fun h2=>by
   obtain⟨j,o,e,ho,e2⟩:=lT hx h2;rw[e2] at h0;exact hkz o (L2a ho) h0
  have HK:=rL W mb h2;obtain⟨xk,xn⟩:=x;simp only at x0 x1 HK;obtain⟨ik,iN⟩:=i;obtain⟨yk,yn⟩:=y;simp only at i0 i1 y0 y1;clear h hkz hx h0 hk h2;obtain⟨xc,xa,xd,xb⟩:=W9 (show sb < W.heap.size by omega);go_enter func183,ntmps183;go_wp2_with (first | (go_at_call 221;refine CE (HK.out _ P4) ?_) | (go_at_call 218;refine CE (B4 _ _) ?_))
  refine bodyPost_ret (v:=.agg #[J 0,zD,J 0,J 2]) (by simp [results,results183,go_sem]) rfl ?_;exact⟨none,0,rfl,P4,B8 _ _⟩
 ·obtain ⟨j,o,rfl,ho,e2⟩:=X1 hx h0
  rw[e2] at hk;have xe:o.kind≠2:=hk;have xf:(o.kind == 2)=false:=L2c.2 xe;have HK:=fZ h ho;generalize o.kind=kd at *
  simp only at x0 x1;obtain⟨ik,iN⟩:=i;obtain⟨yk,yn⟩:=y;simp only at i0 i1 y0 y1;clear h hkz hx h0 hk e2 ho;obtain⟨xc,xa,xd,xb⟩:=W9 (show sb < W.heap.size by omega);go_enter func183,ntmps183;go_wp2_with (first | (go_at_call 221;refine CE (HK.out _ P4) ?_) | (go_at_call 218;refine CE (B4 _ _) ?_))
  refine bodyPost_ret (v:=.agg #[J 0,zD,J 0,J 2]) (by simp [results,results183,go_sem]) rfl ?_;exact⟨none,0,rfl,P4,B8 _ _⟩
theorem a3p (h:A9 W own mb g R) {sb m sc j:Nat} {o:ThR} (ho:R.ths[j]?=some o) (i:Val) (a:Int) (pc:Nat) (hpc:pc<=1000) (hsb:sb < W.heap.size) (x0:W.cell? ⟨sb,m*2,none⟩=some (zC 2)) (x1:W.cell? ⟨sb,m*2+1,none⟩=some (J (j:Int))) (i0:W.cell? ⟨sb,(m+1)*2,none⟩=some (zC i.1)) (i1:W.cell? ⟨sb,(m+1)*2+1,none⟩=some (J i.2)) (hm:m<=1000) (hk:o.kind=2) (hi1:i.1≠1) (hn:o.fl.length<=1000) (hth:R.ths.length<=100000000000) :
  Calls prog 183 #[zB mb,.agg #[J 21,J a],J (pc:Int),.slice (zA sb) (m+2) sc] W fun e w'=>D2 0 [] 0 2 W e w':=by
 have HK:=fJ h ho hk;have xv:=(fun (_:pc<=1000) (_:o.fl.length<=1000) (_:R.ths.length<=100000000000)=>h.lt _ _ h.me) hpc hn hth;obtain⟨tb,tc,fa,fc,m5,xs,t1,xr,xt,xd⟩:=h.thing ho;have xu:=(L1a.1 ho).1;have xm:(j:Int) < (R.ths.length:Int):=by omega
 have xg:(i.1 == 1)=false:=L2c.2 hi1;generalize hnt:R.ths.length=nt at *
 generalize hnf:o.fl.length=nf at *
 obtain⟨ik,iN⟩:=i;simp only at hi1 xg i0 i1;obtain⟨xn,xh,xq,xi⟩:=W9 (show sb < W.heap.size by omega);obtain⟨xe,xp,xc,xb,xo⟩:=S9 (show mb < W.heap.size by omega);obtain⟨xf,xl,xa,xk,xj⟩:=S9 (show tb < W.heap.size by omega);clear h ho hk xd xr;go_enter func183,ntmps183;go_wp2_with (first | (go_at_call 221;refine CE (HK.out _ P4) ?_) | (go_at_call 218;refine CE (B4 _ _) ?_))
 refine bodyPost_ret (v:=.agg #[J 0,zD,J 0,J 2]) (by simp [results,results183,go_sem]) rfl ?_;exact⟨none,0,rfl,P4,B8 _ _⟩
theorem a7P (h:A9 W own mb g R) {sb m sc j:Nat} {o:ThR} (ho:R.ths[j]?=some o) (i:Val) (a:Int) (pc:Nat) (hpc:pc<=1000) (hsb:sb < W.heap.size) (x0:W.cell? ⟨sb,m*2,none⟩=some (zC 2)) (x1:W.cell? ⟨sb,m*2+1,none⟩=some (J (j:Int))) (i0:W.cell? ⟨sb,(m+1)*2,none⟩=some (zC i.1)) (i1:W.cell? ⟨sb,(m+1)*2+1,none⟩=some (J i.2)) (hm:m<=1000) (hk:o.kind=2) (hi1:i.1=1) (hi2:i.2 < 0) (hn:o.fl.length<=1000) (hth:R.ths.length<=100000000000) :
  Calls prog 183 #[zB mb,.agg #[J 21,J a],J (pc:Int),.slice (zA sb) (m+2) sc] W fun e w'=>D2 0 [] 0 3 W e w':=by
 have HK:=fJ h ho hk;have xu:=(fun (_:pc<=1000) (_:o.fl.length<=1000) (_:R.ths.length<=100000000000)=>h.lt _ _ h.me) hpc hn hth;obtain⟨tb,tc,fa,fc,m5,xr,t1,xq,xs,xd⟩:=h.thing ho;have xt:=(L1a.1 ho).1;have xl:(j:Int) < (R.ths.length:Int):=by omega
 generalize hnt:R.ths.length=nt at *
 generalize hnf:o.fl.length=nf at *
 obtain⟨ik,iN⟩:=i;simp only at hi1 hi2 i0 i1;obtain⟨xm,xg,xp,xh⟩:=W9 (show sb < W.heap.size by omega);obtain⟨xe,xo,xc,xb,xn⟩:=S9 (show mb < W.heap.size by omega);obtain⟨xf,xk,xa,xj,xi⟩:=S9 (show tb < W.heap.size by omega);clear h ho hk xd xq;subst hi1;go_enter func183,ntmps183;go_wp2_with (first | (go_at_call 221;refine CE (HK.out _ P4) ?_) | (go_at_call 218;refine CE (B4 _ _) ?_))
 go_region
 go_wp2_with (first | (go_at_call 221;refine CE (HK.out _ P4) ?_) | (go_at_call 218;refine CE (B4 _ _) ?_))
 refine bodyPost_ret (v:=.agg #[J 0,zD,J 0,J 3]) (by simp [results,results183,go_sem]) rfl ?_;exact⟨none,0,rfl,P4,B8 _ _⟩
theorem a7O (h:A9 W own mb g R) {sb m sc j:Nat} {o:ThR} (ho:R.ths[j]?=some o) (i:Val) (a:Int) (pc:Nat) (hpc:pc<=1000) (hsb:sb < W.heap.size) (x0:W.cell? ⟨sb,m*2,none⟩=some (zC 2)) (x1:W.cell? ⟨sb,m*2+1,none⟩=some (J (j:Int))) (i0:W.cell? ⟨sb,(m+1)*2,none⟩=some (zC i.1)) (i1:W.cell? ⟨sb,(m+1)*2+1,none⟩=some (J i.2)) (hm:m<=1000) (hk:o.kind=2) (hi1:i.1=1) (hi2:0<=i.2) (hi3:(o.fl.length:Int)<=i.2) (hn:o.fl.length<=1000) (hth:R.ths.length<=100000000000) :
  Calls prog 183 #[zB mb,.agg #[J 21,J a],J (pc:Int),.slice (zA sb) (m+2) sc] W fun e w'=>D2 0 [] 0 3 W e w':=by
 have HK:=fJ h ho hk;have xu:=(fun (_:pc<=1000) (_:o.fl.length<=1000) (_:R.ths.length<=100000000000)=>h.lt _ _ h.me) hpc hn hth;obtain⟨tb,tc,fa,fc,m5,xr,t1,xq,xs,xd⟩:=h.thing ho;have xt:=(L1a.1 ho).1;have xl:(j:Int) < (R.ths.length:Int):=by omega
 generalize hnt:R.ths.length=nt at *
 generalize hnf:o.fl.length=nf at *
 obtain⟨ik,iN⟩:=i;simp only at hi1 hi2 hi3 i0 i1;obtain⟨xm,xg,xp,xh⟩:=W9 (show sb < W.heap.size by omega);obtain⟨xe,xo,xc,xb,xn⟩:=S9 (show mb < W.heap.size by omega);obtain⟨xf,xk,xa,xj,xi⟩:=S9 (show tb < W.heap.size by omega);clear h ho hk xd xq;subst hi1;go_enter func183,ntmps183;go_wp2_with (first | (go_at_call 221;refine CE (HK.out _ P4) ?_) | (go_at_call 218;refine CE (B4 _ _) ?_))
 go_region
 go_wp2_with (first | (go_at_call 221;refine CE (HK.out _ P4) ?_) | (go_at_call 218;refine CE (B4 _ _) ?_))
 refine bodyPost_ret (v:=.agg #[J 0,zD,J 0,J 3]) (by simp [results,results183,go_sem]) rfl ?_;exact⟨none,0,rfl,P4,B8 _ _⟩
theorem a9g (h:A9 W own mb g R) {sb m sc j:Nat} {o:ThR} (ho:R.ths[j]?=some o) (i:Val) (a:Int) (b:Nat) {z:Val} (pc:Nat) (hpc:pc<=1000) (hsb:sb < W.heap.size) (x0:W.cell? ⟨sb,m*2,none⟩=some (zC 2)) (x1:W.cell? ⟨sb,m*2+1,none⟩=some (J (j:Int))) (i0:W.cell? ⟨sb,(m+1)*2,none⟩=some (zC i.1)) (i1:W.cell? ⟨sb,(m+1)*2+1,none⟩=some (J i.2)) (hm:m<=1000) (hk:o.kind=2) (hi1:i=(1,(b:Int))) (hf:o.fl[b]?=some z) (hn:o.fl.length<=1000) (hth:R.ths.length<=100000000000) :
  Calls prog 183 #[zB mb,.agg #[J 21,J a],J (pc:Int),.slice (zA sb) (m+2) sc] W fun e w'=>D2 2 [z] ((pc:Int)+1) 0 W e w':=by
 have HK:=fJ h ho hk;have yc:=(fun (_:pc<=1000) (_:o.fl.length<=1000) (_:R.ths.length<=100000000000)=>h.lt _ _ h.me) hpc hn hth;obtain⟨tb,tc,fa,fc,m5,xy,t1,xx,xz,xb⟩:=h.thing ho;have yb:=(L1a.1 ho).1;have xp:(j:Int) < (R.ths.length:Int):=by omega
 have yd:=(L1a.1 hf).1;have xj:(b:Int) < (o.fl.length:Int):=by omega
 obtain⟨fb,rfl,ya,xa⟩:=xb R5;obtain⟨f0,f1⟩:=xa b z hf;obtain⟨zk,zn⟩:=z;simp only at f0 f1;clear xa;subst hi1;obtain⟨xt,xf,xl,xs,xr⟩:=S9 (show fb < W.heap.size by omega);generalize hnt:R.ths.length=nt at *
 generalize hnf:o.fl.length=nf at *
 simp only at i0 i1;obtain⟨xq,xi,xw,xk⟩:=W9 (show sb < W.heap.size by omega);obtain⟨xg,xv,xe,xd,xu⟩:=S9 (show mb < W.heap.size by omega);obtain⟨xh,xo,xc,xn,xm⟩:=S9 (show tb < W.heap.size by omega);clear h ho hk xb xx hf;go_enter func183,ntmps183;go_wp2_with (first | (go_at_call 221;refine CE (HK.out _ P4) ?_) | (go_at_call 218;refine CE (B4 _ _) ?_) | (go_at_call 220;refine CE (O0 _ _ (zk,zn) _ hpc) ?_))
 go_region
 go_wp2_with (first | (go_at_call 221;refine CE (HK.out _ P4) ?_) | (go_at_call 218;refine CE (B4 _ _) ?_) | (go_at_call 220;refine CE (O0 _ _ (zk,zn) _ hpc) ?_))
 refine bodyPost_ret (v:=.agg #[J 2,.slice (some ⟨W.heap.size+1+1+1+1+1+1+1,0,none⟩) 1 1,J ((pc:Int)+1),J 0]) (by simp [results,results183,go_sem]) rfl ?_;refine⟨_,1,rfl,P4,rfl,L4b ⟨W.heap.size+1+1+1+1+1+1+1,1,#[zC zk,J zn],rfl,by omega,?_,L1c _,by decide,rfl,rfl⟩⟩
 exact B0 R6
theorem a0X (h:A9 W own mb g R) {sb m sc j:Nat} {o:ThR} (ho:R.ths[j]?=some o) (i y:Val) (a:Int) (pc:Nat) (hpc:pc<=1000) (hsb:sb < W.heap.size) (x0:W.cell? ⟨sb,m*2,none⟩=some (zC 2)) (x1:W.cell? ⟨sb,m*2+1,none⟩=some (J (j:Int))) (i0:W.cell? ⟨sb,(m+1)*2,none⟩=some (zC i.1)) (i1:W.cell? ⟨sb,(m+1)*2+1,none⟩=some (J i.2)) (y0:W.cell? ⟨sb,(m+2)*2,none⟩=some (zC y.1)) (y1:W.cell? ⟨sb,(m+2)*2+1,none⟩=some (J y.2)) (hm:m<=1000) (hk:o.kind=2) (hi1:i.1≠1) (hn:o.fl.length<=1000) (hth:R.ths.length<=100000000000) :
  Calls prog 183 #[zB mb,.agg #[J 22,J a],J (pc:Int),.slice (zA sb) (m+3) sc] W fun e w'=>D2 0 [] 0 2 W e w':=by
 have HK:=fJ h ho hk;have xv:=(fun (_:pc<=1000) (_:o.fl.length<=1000) (_:R.ths.length<=100000000000)=>h.lt _ _ h.me) hpc hn hth;obtain⟨tb,tc,fa,fc,m5,xs,t1,xr,xt,xd⟩:=h.thing ho;have xu:=(L1a.1 ho).1;have xm:(j:Int) < (R.ths.length:Int):=by omega
 have xg:(i.1 == 1)=false:=L2c.2 hi1;generalize hnt:R.ths.length=nt at *
 generalize hnf:o.fl.length=nf at *
 obtain⟨ik,iN⟩:=i;obtain⟨yk,yn⟩:=y;simp only at hi1 xg i0 i1 y0 y1;obtain⟨xn,xh,xq,xi⟩:=W9 (show sb < W.heap.size by omega);obtain⟨xe,xp,xc,xb,xo⟩:=S9 (show mb < W.heap.size by omega);obtain⟨xf,xl,xa,xk,xj⟩:=S9 (show tb < W.heap.size by omega);clear h ho hk xd xr;go_enter func183,ntmps183;go_wp2_with (first | (go_at_call 221;refine CE (HK.out _ P4) ?_) | (go_at_call 218;refine CE (B4 _ _) ?_))
 refine bodyPost_ret (v:=.agg #[J 0,zD,J 0,J 2]) (by simp [results,results183,go_sem]) rfl ?_;exact⟨none,0,rfl,P4,B8 _ _⟩
theorem a6e (h:A9 W own mb g R) {sb m sc j:Nat} {o:ThR} (ho:R.ths[j]?=some o) (i y:Val) (a:Int) (pc:Nat) (hpc:pc<=1000) (hsb:sb < W.heap.size) (x0:W.cell? ⟨sb,m*2,none⟩=some (zC 2)) (x1:W.cell? ⟨sb,m*2+1,none⟩=some (J (j:Int))) (i0:W.cell? ⟨sb,(m+1)*2,none⟩=some (zC i.1)) (i1:W.cell? ⟨sb,(m+1)*2+1,none⟩=some (J i.2)) (y0:W.cell? ⟨sb,(m+2)*2,none⟩=some (zC y.1)) (y1:W.cell? ⟨sb,(m+2)*2+1,none⟩=some (J y.2)) (hm:m<=1000) (hk:o.kind=2) (hi1:i.1=1) (hi2:i.2 < 0) (hn:o.fl.length<=1000) (hth:R.ths.length<=100000000000) :
  Calls prog 183 #[zB mb,.agg #[J 22,J a],J (pc:Int),.slice (zA sb) (m+3) sc] W fun e w'=>D2 0 [] 0 3 W e w':=by
 have HK:=fJ h ho hk;have xu:=(fun (_:pc<=1000) (_:o.fl.length<=1000) (_:R.ths.length<=100000000000)=>h.lt _ _ h.me) hpc hn hth;obtain⟨tb,tc,fa,fc,m5,xr,t1,xq,xs,xd⟩:=h.thing ho;have xt:=(L1a.1 ho).1;have xl:(j:Int) < (R.ths.length:Int):=by omega
 generalize hnt:R.ths.length=nt at *
 generalize hnf:o.fl.length=nf at *
 obtain⟨ik,iN⟩:=i;obtain⟨yk,yn⟩:=y;simp only at hi1 hi2 i0 i1 y0 y1;obtain⟨xm,xg,xp,xh⟩:=W9 (show sb < W.heap.size by omega);obtain⟨xe,xo,xc,xb,xn⟩:=S9 (show mb < W.heap.size by omega);obtain⟨xf,xk,xa,xj,xi⟩:=S9 (show tb < W.heap.size by omega);clear h ho hk xd xq;subst hi1;go_enter func183,ntmps183;go_wp2_with (first | (go_at_call 221;refine CE (HK.out _ P4) ?_) | (go_at_call 218;refine CE (B4 _ _) ?_))
 go_region
 go_wp2_with (first | (go_at_call 221;refine CE (HK.out _ P4) ?_) | (go_at_call 218;refine CE (B4 _ _) ?_))
 refine bodyPost_ret (v:=.agg #[J 0,zD,J 0,J 3]) (by simp [results,results183,go_sem]) rfl ?_;exact⟨none,0,rfl,P4,B8 _ _⟩
theorem a6d (h:A9 W own mb g R) {sb m sc j:Nat} {o:ThR} (ho:R.ths[j]?=some o) (i y:Val) (a:Int) (pc:Nat) (hpc:pc<=1000) (hsb:sb < W.heap.size) (x0:W.cell? ⟨sb,m*2,none⟩=some (zC 2)) (x1:W.cell? ⟨sb,m*2+1,none⟩=some (J (j:Int))) (i0:W.cell? ⟨sb,(m+1)*2,none⟩=some (zC i.1)) (i1:W.cell? ⟨sb,(m+1)*2+1,none⟩=some (J i.2)) (y0:W.cell? ⟨sb,(m+2)*2,none⟩=some (zC y.1)) (y1:W.cell? ⟨sb,(m+2)*2+1,none⟩=some (J y.2)) (hm:m<=1000) (hk:o.kind=2) (hi1:i.1=1) (hi2:0<=i.2) (hi3:(o.fl.length:Int)<=i.2) (hn:o.fl.length<=1000) (hth:R.ths.length<=100000000000) :
  Calls prog 183 #[zB mb,.agg #[J 22,J a],J (pc:Int),.slice (zA sb) (m+3) sc] W fun e w'=>D2 0 [] 0 3 W e w':=by
 have HK:=fJ h ho hk;have xu:=(fun (_:pc<=1000) (_:o.fl.length<=1000) (_:R.ths.length<=100000000000)=>h.lt _ _ h.me) hpc hn hth;obtain⟨tb,tc,fa,fc,m5,xr,t1,xq,xs,xd⟩:=h.thing ho;have xt:=(L1a.1 ho).1;have xl:(j:Int) < (R.ths.length:Int):=by omega
 generalize hnt:R.ths.length=nt at *
 generalize hnf:o.fl.length=nf at *
 obtain⟨ik,iN⟩:=i;obtain⟨yk,yn⟩:=y;simp only at hi1 hi2 hi3 i0 i1 y0 y1;obtain⟨xm,xg,xp,xh⟩:=W9 (show sb < W.heap.size by omega);obtain⟨xe,xo,xc,xb,xn⟩:=S9 (show mb < W.heap.size by omega);obtain⟨xf,xk,xa,xj,xi⟩:=S9 (show tb < W.heap.size by omega);clear h ho hk xd xq;subst hi1;go_enter func183,ntmps183;go_wp2_with (first | (go_at_call 221;refine CE (HK.out _ P4) ?_) | (go_at_call 218;refine CE (B4 _ _) ?_))
 go_region
 go_wp2_with (first | (go_at_call 221;refine CE (HK.out _ P4) ?_) | (go_at_call 218;refine CE (B4 _ _) ?_))
 refine bodyPost_ret (v:=.agg #[J 0,zD,J 0,J 3]) (by simp [results,results183,go_sem]) rfl ?_;exact⟨none,0,rfl,P4,B8 _ _⟩
theorem a7Y {R:RfR} (h:A9 W own mb g R) {sb m sc j:Nat} {o:ThR} (ho:R.ths[j]?=some o) (i y:Val) (a:Int) (b:Nat) {z:Val} (pc:Nat) (hpc:pc<=1000) (hsf':∀b,own b=some (.fld j)->sb≠b) (hsb:sb < W.heap.size) (x0:W.cell? ⟨sb,m*2,none⟩=some (zC 2)) (x1:W.cell? ⟨sb,m*2+1,none⟩=some (J (j:Int))) (i0:W.cell? ⟨sb,(m+1)*2,none⟩=some (zC i.1)) (i1:W.cell? ⟨sb,(m+1)*2+1,none⟩=some (J i.2)) (y0:W.cell? ⟨sb,(m+2)*2,none⟩=some (zC y.1)) (y1:W.cell? ⟨sb,(m+2)*2+1,none⟩=some (J y.2)) (hm:m<=1000) (hk:o.kind=2) (hi1:i=(1,(b:Int))) (hf:o.fl[b]?=some z) (hn:o.fl.length<=1000) (hth:R.ths.length<=100000000000) :
  Calls prog 183 #[zB mb,.agg #[J 22,J a],J (pc:Int),.slice (zA sb) (m+3) sc] W fun e w'=>K8 own mb g (fun R'=>R'={ R with ths:=R.ths.set j { o with fl:=o.fl.set b y } }) 3 [] ((pc:Int)+1) 0 W e w':=by
 have HK:=fJ h ho hk;have yg:=(fun (_:pc<=1000) (_:o.fl.length<=1000) (_:R.ths.length<=100000000000)=>h.lt _ _ h.me) hpc hn hth;obtain⟨tb,tc,fa,fc,m5,yc,t1,xc,yd,xe⟩:=h.thing ho;have yf:=(L1a.1 ho).1;have xs:(j:Int) < (R.ths.length:Int):=by omega
 have yi:=(L1a.1 hf).1;have xm:(b:Int) < (o.fl.length:Int):=by omega
 obtain⟨fb,rfl,ye,xb⟩:=xe R5;obtain⟨f0,f1⟩:=xb b z hf;have xd:∀q,W.frozen? ⟨fb,q,none⟩=false:=fun q=>tY (h.fld j o ho).1 (by rw [xc];rfl) q
 have z0:=xd (b*2);have z1:=xd (b*2+1);have xa:own fb=some (.fld j):=(h.fld j o ho).2 fb (by rw [xc];rfl);have yh:sb≠fb:=hsf' fb xa;have HA:=hid h;have HO:=hid ho;have HF:=hid hf;have ya:=hid xc;have yb:=hid xa;clear xb xd xa hsf';subst hi1;obtain⟨xw,xi,xo,xv,xu⟩:=S9 (show fb < W.heap.size by omega);generalize hnt:R.ths.length=nt at *
 generalize hnf:o.fl.length=nf at *
 obtain⟨yk,yn⟩:=y;simp only at i0 i1 y0 y1;obtain⟨xt,xl,xz,xn⟩:=W9 (show sb < W.heap.size by omega);obtain⟨xj,xy,xh,xg,xx⟩:=S9 (show mb < W.heap.size by omega);obtain⟨xk,xr,xf,xq,xp⟩:=S9 (show tb < W.heap.size by omega);clear h ho hk xe xc hf;go_enter func183,ntmps183;go_wp2_with (first | (go_at_call 221;refine CE (HK.out _ P4) ?_) | (go_at_call 218;refine CE (B4 _ _) ?_) | (go_at_call 222;refine CE (W6 _ _ _ hpc) ?_))
 go_region
 go_wp2_with (first | (go_at_call 221;refine CE (HK.out _ P4) ?_) | (go_at_call 218;refine CE (B4 _ _) ?_) | (go_at_call 222;refine CE (W6 _ _ _ hpc) ?_))
 go_region
 go_wp2_with (first | (go_at_call 221;refine CE (HK.out _ P4) ?_) | (go_at_call 218;refine CE (B4 _ _) ?_) | (go_at_call 222;refine CE (W6 _ _ _ hpc) ?_))
 obtain⟨hM,hT⟩:=HA.out.putFld (y:=(yk,yn)) HO.out HF.out (by rw [hnf];exact ya.out) yb.out;refine bodyPost_ret (v:=.agg #[J 3,zD,J ((pc:Int)+1),J 0]) (by simp [results,results183,go_sem]) rfl ?_;exact⟨own,_,none,0,rfl,hM.same P4,rfl,hT.trans (A2.of_below P4),B8 _ _,fun b hb=>by cases hb⟩
end
end Go.Proofs.YtbkmgoffiigdbaaGreatDoor
