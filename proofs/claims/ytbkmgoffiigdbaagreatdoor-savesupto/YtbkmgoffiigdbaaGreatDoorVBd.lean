import Derived.Test.YtbkmgoffiigdbaaGreatDoorVBc
namespace Go.Proofs.YtbkmgoffiigdbaaGreatDoor
open Go.RowKit Go.Sort Go.Proofs.Tryz
set_option maxHeartbeats 2000000
set_option maxRecDepth 100000
section
variable {R:RfR} {W:World} {g:PgR} {mb:Nat} {own:Own}
theorem a3z (h:A9 W own mb g R) (x:Val) (a:Int) (pc:Nat) (hkz:∀o,o∈R.ths->o.kind=1\/o.kind=2\/o.kind=3) (hx:fQ R x) (hk1:(A1 R.abs.obs x).1≠1) (hk2:(A1 R.abs.obs x).1≠2) :
  Calls prog 184 #[zB mb,.agg #[J 23,J a],J (pc:Int),.agg #[zC x.1,J x.2]] W fun e w'=>D2 0 [] 0 2 W e w':=by
 by_cases h0:(A1 R.abs.obs x).1=0
 ·have h2:x.1≠2:=fun h2=>by
   obtain⟨j,o,e,ho,e2⟩:=lT hx h2;rw[e2] at h0;have xd:o.kind=0:=h0;have:=hkz o (L2a ho);omega
  have HK:=rL W mb h2;obtain⟨xk,xn⟩:=x;simp only at HK;clear h hkz hx h0 hk1 hk2 h2;go_enter func184,ntmps184;go_wp2_with (first | (go_at_call 221;refine CE (HK.out _ P4) ?_) | (go_at_call 218;refine CE (B4 _ _) ?_))
  refine bodyPost_ret (v:=.agg #[J 0,zD,J 0,J 2]) (by simp [results,results184,go_sem]) rfl ?_;exact⟨none,0,rfl,P4,B8 _ _⟩
 ·obtain ⟨j,o,rfl,ho,e2⟩:=X1 hx h0
  rw[e2] at hk1 hk2;have xa:o.kind≠1:=hk1;have xb:o.kind≠2:=hk2;have xc:o.kind=3:=by have:=hkz o (L2a ho);omega
  have HK:=fZ h ho;rw[xc] at HK;clear xa xb;clear h hkz hx h0 hk1 hk2 e2 ho;go_enter func184,ntmps184;go_wp2_with (first | (go_at_call 221;refine CE (HK.out _ P4) ?_) | (go_at_call 218;refine CE (B4 _ _) ?_))
  refine bodyPost_ret (v:=.agg #[J 0,zD,J 0,J 2]) (by simp [results,results184,go_sem]) rfl ?_;exact⟨none,0,rfl,P4,B8 _ _⟩
theorem uA (h:A9 W own mb g R) (x:Val) (a:Int) (pc:Nat) (hkz:∀o,o∈R.ths->o.kind=1\/o.kind=2\/o.kind=3) (hx:fQ R x) (hk:(A1 R.abs.obs x).1≠3) :
  Calls prog 184 #[zB mb,.agg #[J 24,J a],J (pc:Int),.agg #[zC x.1,J x.2]] W fun e w'=>D2 0 [] 0 2 W e w':=by
 by_cases h0:(A1 R.abs.obs x).1=0
 ·have h2:x.1≠2:=fun h2=>by
   obtain⟨j,o,e,ho,e2⟩:=lT hx h2;rw[e2] at h0;have xc:o.kind=0:=h0;have:=hkz o (L2a ho);omega
  have HK:=rL W mb h2;obtain⟨xk,xn⟩:=x;simp only at HK;clear h hkz hx h0 hk h2;go_enter func184,ntmps184;go_wp2_with (first | (go_at_call 221;refine CE (HK.out _ P4) ?_) | (go_at_call 218;refine CE (B4 _ _) ?_))
  refine bodyPost_ret (v:=.agg #[J 0,zD,J 0,J 2]) (by simp [results,results184,go_sem]) rfl ?_;exact⟨none,0,rfl,P4,B8 _ _⟩
 ·obtain ⟨j,o,rfl,ho,e2⟩:=X1 hx h0
  rw[e2] at hk;have xa:o.kind≠3:=hk;have xb:(o.kind == 3)=false:=L2c.2 xa;have HK:=fZ h ho;generalize o.kind=kd at *
  clear h hkz hx h0 hk e2 ho;go_enter func184,ntmps184;go_wp2_with (first | (go_at_call 221;refine CE (HK.out _ P4) ?_) | (go_at_call 218;refine CE (B4 _ _) ?_))
  refine bodyPost_ret (v:=.agg #[J 0,zD,J 0,J 2]) (by simp [results,results184,go_sem]) rfl ?_;exact⟨none,0,rfl,P4,B8 _ _⟩
theorem a7R (h:A9 W own mb g R) {j:Nat} {o:ThR} (ho:R.ths[j]?=some o) (a:Int) (pc:Nat) (hpc:pc<=1000) (hk:o.kind=1\/o.kind=2) (hn:o.fl.length<=1000) (hth:R.ths.length<=100000000000) :
  Calls prog 184 #[zB mb,.agg #[J 23,J a],J (pc:Int),.agg #[zC 2,J (j:Int)]] W fun e w'=>D2 1 [(1,(o.fl.length:Int))] ((pc:Int)+1) 0 W e w':=by
 have HK:=fZ h ho;have xq:=(fun (_:pc<=1000) (_:o.fl.length<=1000) (_:R.ths.length<=100000000000)=>h.lt _ _ h.me) hpc hn hth;obtain⟨tb,tc,fa,fc,m5,xn,t1,xm,xo,xd⟩:=h.thing ho;have xp:=(L1a.1 ho).1;have xj:(j:Int) < (R.ths.length:Int):=by omega
 generalize o.kind=kd at *
 generalize hnt:R.ths.length=nt at *
 generalize hnf:o.fl.length=nf at *
 obtain⟨xe,xl,xc,xb,xk⟩:=S9 (show mb < W.heap.size by omega);obtain⟨xf,xi,xa,xh,xg⟩:=S9 (show tb < W.heap.size by omega);clear h ho xd xm;rcases hk with rfl | rfl
 all_goals
  go_enter func184,ntmps184;go_wp2_with (go_at_call 221;refine CE (HK.out _ P4) ?_)
  go_region_with (first | (go_at_call 215;refine CE (fA _ _) ?_) | (go_at_call 220;refine CE (O0 _ _ (1,(nf:Int)) _ hpc) ?_))
  all_goals go_wp2_with fail
  all_goals
   refine bodyPost_ret (v:=.agg #[J 1,.slice (some ⟨W.heap.size+1+1+1+1+1+1+1,0,none⟩) 1 1,J ((pc:Int)+1),J 0]) (by simp [results,results184,go_sem]) rfl ?_;refine⟨_,1,rfl,P4,rfl,L4b ⟨W.heap.size+1+1+1+1+1+1+1,1,#[zC 1,J (nf:Int)],rfl,by omega,?_,L1c _,by decide,rfl,rfl⟩⟩
   exact B0 R6
theorem qV (h:A9 W own mb g R) {j:Nat} {o:ThR} (ho:R.ths[j]?=some o) (a:Int) (pc:Nat) (hpc:pc<=1000) (hk:o.kind=3) {t:Val} (hfl:o.fl=[t]) (h2:t.1≠2) (hn:o.fl.length<=1000) (hth:R.ths.length<=100000000000) :
  Calls prog 184 #[zB mb,.agg #[J 24,J a],J (pc:Int),.agg #[zC 2,J (j:Int)]] W fun e w'=>D2 1 [t] ((pc:Int)+1) 0 W e w':=by
 have HK:=fZ h ho;have xz:=(fun (_:pc<=1000) (_:o.fl.length<=1000) (_:R.ths.length<=100000000000)=>h.lt _ _ h.me) hpc hn hth;obtain⟨tb,tc,fa,fc,m5,xv,t1,xu,xw,xc⟩:=h.thing ho;have xy:=(L1a.1 ho).1;have xn:(j:Int) < (R.ths.length:Int):=by omega
 obtain⟨fb,rfl,xx,xa⟩:=xc (by rw [hfl];simp);obtain⟨f0,f1⟩:=xa 0 t (by rw [hfl];rfl);rw[Nat.zero_mul] at f0 f1;have xb:o.fl.length=1:=by rw [hfl];rfl
 rw[xb] at t1;have xr:(t.1 == 2)=false:=L2c.2 h2;rw[hk] at HK;obtain⟨tk,tn⟩:=t;simp only at f0 f1;obtain⟨xq,xg,xj,xp,xo⟩:=S9 (show fb < W.heap.size by omega);generalize hnt:R.ths.length=nt at *
 generalize hnf:o.fl.length=nf at *
 obtain⟨xh,xt,xf,xe,xs⟩:=S9 (show mb < W.heap.size by omega);obtain⟨xi,xm,xd,xl,xk⟩:=S9 (show tb < W.heap.size by omega);clear h ho xc xa xu hk;simp only at h2 xr;go_enter func184,ntmps184;go_wp2_with (go_at_call 221;refine CE (HK.out _ P4) ?_)
 go_region
 go_wp2_with (first | (go_at_call 220;refine CE (O0 _ _ (tk,tn) _ hpc) ?_))
 refine bodyPost_ret (v:=.agg #[J 1,.slice (some ⟨W.heap.size+1+1+1+1+1+1+1,0,none⟩) 1 1,J ((pc:Int)+1),J 0]) (by simp [results,results184,go_sem]) rfl ?_;refine⟨_,1,rfl,P4,rfl,L4b ⟨W.heap.size+1+1+1+1+1+1+1,1,#[zC tk,J tn],rfl,by omega,?_,L1c _,by decide,rfl,rfl⟩⟩
 exact B0 R6
end
theorem uB {W:World} {own:Own} {mb:Nat} {g:PgR} {R:RfR} (h:A9 W own mb g R) {j:Nat} {o:ThR} (ho:R.ths[j]?=some o) (a:Int) (pc:Nat) (hpc:pc<=1000) (hk:o.kind=3) {i:Nat} (hfl:o.fl=[(2,(i:Int))]) (hb:iA R) (hr:dX R) (hin:i∈A0 R.abs) (hn:o.fl.length<=1000) (hth:R.ths.length<=100000000000) :
  Calls prog 184 #[zB mb,.agg #[J 24,J a],J (pc:Int),.agg #[zC 2,J (j:Int)]] W fun e w'=>D2 1 [(2,(i:Int))] ((pc:Int)+1) 0 W e w':=by
 have HK:=fZ h ho;have yq:=(fun (_:pc<=1000) (_:o.fl.length<=1000) (_:R.ths.length<=100000000000)=>h.lt _ _ h.me) hpc hn hth;obtain⟨tb,tc,fa,fc,m5,yh,t1,yf,yi,xj⟩:=h.thing ho;have yn:=(L1a.1 ho).1;have xz:(j:Int) < (R.ths.length:Int):=by omega
 obtain⟨fb,rfl,ym,xc⟩:=xj (by rw [hfl];simp);obtain⟨f0,f1⟩:=xc 0 (2,(i:Int)) (by rw [hfl];rfl);rw[Nat.zero_mul] at f0 f1;have xe:o.fl.length=1:=by rw [hfl];rfl
 rw[xe] at t1;simp only at f0 f1;rw[hk] at HK;have xd:Hid (∀U,L0d W U->Calls prog 86 #[zB mb] U fun e w'=>∃v,e=.returned v/\w'.ownsRow U.heap.size 3 1 v (A0 R.abs).length (Y4 (A0 R.abs))/\L0d U w'):=hid fun U hU=>cG (h.same hU) hb hr
 have yw:(A0 R.abs).length<=100000000000:=L5a (gO hr) hb.ths;have xi:=eI (l:=A0 R.abs) (j:=i);generalize A0 R.abs=al at *
 have hq:¬C4 (al.map fun n:Nat=>(n:Int)) 0 (i:Int) < 0:=fun c=>xi.1 c hin
 obtain⟨yc,xr,xu,yb,ya⟩:=S9 (show fb < W.heap.size by omega);generalize hnt:R.ths.length=nt at *
 generalize hnf:o.fl.length=nf at *
 obtain⟨xs,ye,xo,xn,yd⟩:=S9 (show mb < W.heap.size by omega);obtain⟨xt,xy,xm,xw,xv⟩:=S9 (show tb < W.heap.size by omega);clear h ho xj xc yf hk hb hr xi;go_enter func184,ntmps184;go_wp2_with (go_at_call 221;refine CE (HK.out _ P4) ?_)
 go_region
 go_wp2_with fail;refine (xd.out _ P4).mono ?_;rintro e w1 ⟨v1,rfl,xk,xa⟩;obtain⟨la,lc,rfl,xb⟩:=O8 xk;have q0:w1.cell? ⟨W.heap.size+1+1+1+1,0,none⟩=some (zC 2):=keep xa R6 R3
 have q1:w1.cell? ⟨W.heap.size+1+1+1+1,1,none⟩=some (J (i:Int)):=keep xa R6 R3;have yo:w1.frozen? ⟨W.heap.size+1+1+1+1,0,none⟩=false:=E3 xa R6 R3;have yv:w1.frozen? ⟨W.heap.size+1+1+1+1,1,none⟩=false:=E3 xa R6 R3;have d0:w1.cell? ⟨W.heap.size+1+1,0,none⟩=some (J 0):=keep xa R6 R3;have d1:w1.cell? ⟨W.heap.size+1+1,1,none⟩=some zD:=keep xa R6 R3
 have d2:w1.cell? ⟨W.heap.size+1+1,2,none⟩=some (J 0):=keep xa R6 R3;have d3:w1.cell? ⟨W.heap.size+1+1,3,none⟩=some (J 0):=keep xa R6 R3;have yp:w1.frozen? ⟨W.heap.size+1+1,0,none⟩=false:=E3 xa R6 R3;have yj:w1.frozen? ⟨W.heap.size+1+1,1,none⟩=false:=E3 xa R6 R3;have yx:w1.frozen? ⟨W.heap.size+1+1,2,none⟩=false:=E3 xa R6 R3
 have yu:w1.frozen? ⟨W.heap.size+1+1,3,none⟩=false:=E3 xa R6 R3;have yl:W.heap.size+1+1+1+1+1<=w1.heap.size:=(by have:=xa.size;simpa using this);have xx:W.heap.size+1+1+1+1 < w1.heap.size:=by omega
 have xf:W.heap.size+1+1 < w1.heap.size:=by omega
 have xh:W.heap.size+1+1 < w1.heap.size+1:=by omega
 have xg:W.heap.size+1+1 < w1.heap.size+1+1:=by omega
 have xq:W.heap.size+1+1 < w1.heap.size+1+1+1:=by omega
 have xp:Hid (L0d W w1):=(hid (D7 xa P4 Q2));have xl:=(hid (eH la lc (al.map fun n:Nat=>(n:Int)) (i:Int) xb (by rw [List.length_map];omega)))
 rw[List.length_map] at xl;clear xk xa xb;generalize hTT:W.heap.size+1+1+1+1=tB at *
 generalize hDD:W.heap.size+1+1=dB at *
 have yt:tB≠dB:=by omega
 have yr:dB≠tB:=by omega
 have yg:W.heap.size<=dB:=by omega
 have ys:W.heap.size<=tB:=by omega
 have yk:W.heap.size<=w1.heap.size:=by omega
 go_wp2_with (first | (go_at_call 103;refine xl.out.mono ?_;rintro e w' ⟨rfl,hw⟩;rw [hw];clear hw w') | (go_at_call 220;refine CE (O0 _ _ (2,(i:Int)) _ hpc) ?_))
 refine bodyPost_ret (v:=.agg #[J 1,.slice (some ⟨w1.heap.size+1+1,0,none⟩) 1 1,J ((pc:Int)+1),J 0]) (by simp [results,results184,go_sem,d0,d1,d2,d3,xf,xh,xg]) rfl ?_;refine⟨_,1,rfl,(by repeat (first | refine Below.setCell ?_ Q1 _ | refine L3a ?_ Q1 _ | exact xp.out)),rfl,L4b ⟨w1.heap.size+1+1,1,#[zC 2,J (i:Int)],rfl,by omega,?_,L1c _,by decide,rfl,rfl⟩⟩
 exact B0 R6
theorem tZ {W:World} {own:Own} {mb:Nat} {g:PgR} {R:RfR} (h:A9 W own mb g R) {j:Nat} {o:ThR} (ho:R.ths[j]?=some o) (a:Int) (pc:Nat) (hpc:pc<=1000) (hk:o.kind=3) {i:Nat} (hfl:o.fl=[(2,(i:Int))]) (hb:iA R) (hr:dX R) (hin:i∉A0 R.abs) (hn:o.fl.length<=1000) (hth:R.ths.length<=100000000000) :
  Calls prog 184 #[zB mb,.agg #[J 24,J a],J (pc:Int),.agg #[zC 2,J (j:Int)]] W fun e w'=>D2 1 [(0,0)] ((pc:Int)+1) 0 W e w':=by
 have HK:=fZ h ho;have yy:=(fun (_:pc<=1000) (_:o.fl.length<=1000) (_:R.ths.length<=100000000000)=>h.lt _ _ h.me) hpc hn hth;obtain⟨tb,tc,fa,fc,m5,yz,t1,yf,za,xm⟩:=h.thing ho;have yv:=(L1a.1 ho).1;have xv:(j:Int) < (R.ths.length:Int):=by omega
 obtain⟨fb,rfl,yu,xc⟩:=xm (by rw [hfl];simp);obtain⟨f0,f1⟩:=xc 0 (2,(i:Int)) (by rw [hfl];rfl);rw[Nat.zero_mul] at f0 f1;have xj:o.fl.length=1:=by rw [hfl];rfl
 rw[xj] at t1;simp only at f0 f1;rw[hk] at HK;have xi:Hid (∀U,L0d W U->Calls prog 86 #[zB mb] U fun e w'=>∃v,e=.returned v/\w'.ownsRow U.heap.size 3 1 v (A0 R.abs).length (Y4 (A0 R.abs))/\L0d U w'):=hid fun U hU=>cG (h.same hU) hb hr
 have yx:(A0 R.abs).length<=100000000000:=L5a (gO hr) hb.ths;have xl:=eI (l:=A0 R.abs) (j:=i);generalize A0 R.abs=al at *
 have hq:C4 (al.map fun n:Nat=>(n:Int)) 0 (i:Int) < 0:=xl.2 hin;obtain⟨yc,xz,xt,ys,ym⟩:=S9 (show fb < W.heap.size by omega);generalize hnt:R.ths.length=nt at *
 generalize hnf:o.fl.length=nf at *
 obtain⟨ya,xx,yn,xy,yb⟩:=S9 (show mb < W.heap.size by omega);obtain⟨xs,yl,yg,xu,yj⟩:=S9 (show tb < W.heap.size by omega);clear h ho xm xc yf hk hb hr xl;go_enter func184,ntmps184;go_wp2_with (go_at_call 221;refine CE (HK.out _ P4) ?_)
 go_region
 go_wp2_with fail;refine (xi.out _ P4).mono ?_;rintro e w1 ⟨v1,rfl,xk,xa⟩;obtain⟨la,lc,rfl,xb⟩:=O8 xk;have q0:w1.cell? ⟨W.heap.size+1+1+1+1,0,none⟩=some (zC 2):=keep xa R6 R3
 have q1:w1.cell? ⟨W.heap.size+1+1+1+1,1,none⟩=some (J (i:Int)):=keep xa R6 R3;have yh:w1.frozen? ⟨W.heap.size+1+1+1+1,0,none⟩=false:=E3 xa R6 R3;have yd:w1.frozen? ⟨W.heap.size+1+1+1+1,1,none⟩=false:=E3 xa R6 R3;have d0:w1.cell? ⟨W.heap.size+1+1,0,none⟩=some (J 0):=keep xa R6 R3;have d1:w1.cell? ⟨W.heap.size+1+1,1,none⟩=some zD:=keep xa R6 R3
 have d2:w1.cell? ⟨W.heap.size+1+1,2,none⟩=some (J 0):=keep xa R6 R3;have d3:w1.cell? ⟨W.heap.size+1+1,3,none⟩=some (J 0):=keep xa R6 R3;have yi:w1.frozen? ⟨W.heap.size+1+1,0,none⟩=false:=E3 xa R6 R3;have xr:w1.frozen? ⟨W.heap.size+1+1,1,none⟩=false:=E3 xa R6 R3;have ye:w1.frozen? ⟨W.heap.size+1+1,2,none⟩=false:=E3 xa R6 R3
 have xw:w1.frozen? ⟨W.heap.size+1+1,3,none⟩=false:=E3 xa R6 R3;have yq:W.heap.size+1+1+1+1+1<=w1.heap.size:=(by have:=xa.size;simpa using this);have yk:W.heap.size+1+1+1+1 < w1.heap.size:=by omega
 have xd:W.heap.size+1+1 < w1.heap.size:=by omega
 have xf:W.heap.size+1+1 < w1.heap.size+1:=by omega
 have xe:W.heap.size+1+1 < w1.heap.size+1+1:=by omega
 have xh:W.heap.size+1+1 < w1.heap.size+1+1+1:=by omega
 have yo:Hid (L0d W w1):=(hid (D7 xa P4 Q2));have xo:=(hid (eH la lc (al.map fun n:Nat=>(n:Int)) (i:Int) xb (by rw [List.length_map];omega)))
 rw[List.length_map] at xo;clear xk xa xb;generalize hTT:W.heap.size+1+1+1+1=tB at *
 generalize hDD:W.heap.size+1+1=dB at *
 have yw:tB≠dB:=by omega
 have xp:dB≠tB:=by omega
 have yt:W.heap.size<=dB:=by omega
 have xq:W.heap.size<=tB:=by omega
 have yp:W.heap.size<=w1.heap.size:=by omega
 go_wp2_with fail;refine xo.out.mono ?_;rintro e w' ⟨rfl,hw⟩;rw[hw];clear hw w';go_wp2_with fail;have xg:((w1.setCell ⟨tB,0,none⟩ (zC 0)).setCell ⟨tB,1,none⟩ (J 0)).heap[dB]?=w1.heap[dB]?:=by rw [heap_setCell_other _ _ _ _ xp,heap_setCell_other _ _ _ _ xp]
 rw[<- L0b (a:=⟨dB,_,none⟩) xg] at d0 d1 d2 d3;rw[<- L0c (a:=⟨dB,_,none⟩) xg] at yi xr ye xw;have yr:Hid (L0d W ((w1.setCell ⟨tB,0,none⟩ (zC 0)).setCell ⟨tB,1,none⟩ (J 0))):=hid (Below.setCell (Below.setCell yo.out xq _) xq _);have xn:((w1.setCell ⟨tB,0,none⟩ (zC 0)).setCell ⟨tB,1,none⟩ (J 0)).heap.size=w1.heap.size:=by simp
 rw[<- xn] at xd xf xe xh yp;clear xg xn q0 q1 yh yd yq;generalize ((w1.setCell ⟨tB,0,none⟩ (zC 0)).setCell ⟨tB,1,none⟩ (J 0))=w2 at *
 refine (O0 _ _ (0,0) _ hpc).mono ?_;rintro e w' ⟨rfl,rfl⟩;go_wp2_with fail;refine bodyPost_ret (v:=.agg #[J 1,.slice (some ⟨w2.heap.size+1+1,0,none⟩) 1 1,J ((pc:Int)+1),J 0]) (by simp [results,results184,go_sem,d0,d1,d2,d3,xd,xf,xe]) rfl ?_;refine⟨_,1,rfl,(by repeat (first | refine Below.setCell ?_ Q1 _ | refine L3a ?_ Q1 _ | exact yr.out)),rfl,L4b ⟨w2.heap.size+1+1,1,#[zC 0,J 0],rfl,by omega,?_,L1c _,by decide,rfl,rfl⟩⟩
 exact B0 R6
section
variable {args:List Val} {ix x y:Val} {k:Nat}
theorem gT {R:RfR} {kind:Int} (hx:fQ R x) (hk:kind≠0) :
  ((A1 R.abs.obs x).1≠kind/\F6 (A1 R.abs.obs x) kind ix=2) \/
  ∃(j:Nat) (o:ThR),x=(2,(j:Int))/\R.ths[j]?=some o/\A1 R.abs.obs x=o.abs/\o.kind=kind /\
   ((ix.1≠1/\F6 o.abs kind ix=2)\/(ix.1=1/\ix.2 < 0/\F6 o.abs kind ix=3)\/(ix.1=1/\0<=ix.2/\(o.fl.length:Int)<=ix.2/\F6 o.abs kind ix=3)\/∃(i:Nat) (y:Val),ix=(1,(i:Int))/\o.fl[i]?=some y/\F6 o.abs kind ix=0):=by
 by_cases h1:(A1 R.abs.obs x).1=kind
 ·obtain ⟨j,o,e1,e2,e3⟩:=X1 hx (by rw [h1];exact hk)
  have xa:o.kind=kind:=by rw [e3] at h1;exact h1
  refine L4b ⟨j,o,e1,e2,e3,xa,?_⟩;have xb:o.abs.1=kind:=xa;unfold F6;by_cases i1:ix.1=1
  ·rw [if_neg (by rw [xb];simp [i1])]
   by_cases i2:ix.2 < 0
   ·exact L4b (L4a ⟨i1,i2,by rw [if_neg R5]⟩)
   ·by_cases i3:(o.fl.length:Int)<=ix.2
    ·refine L4b (L4b (L4a ⟨i1,by omega,i3,?_⟩))
     rw[if_neg];have e:o.abs.2.length=o.fl.length:=rfl;omega
    ·obtain ⟨i,hi⟩:=L5c (show 0<=ix.2 by omega)
     have hl:i < o.fl.length:=by omega
     refine L4b (L4b (L4b ⟨i,o.fl[i],Prod.ext i1 hi,L1b hl,?_⟩));rw[if_pos];have e:o.abs.2.length=o.fl.length:=rfl;omega
  ·exact L4a ⟨i1,by rw [if_pos (L4b i1)]⟩
 ·exact L4a ⟨h1,by unfold F6;rw [if_pos (L4a h1)]⟩
section
variable {W:World} {own:Own} {mb:Nat} {g:PgR} {R:RfR} {t:McA} {fs:List FrR} {f:FrR} {a:Int} {rest:List Val}
theorem OpR.kz (o:OpR W own mb g R t fs f k a rest args):∀q,q∈R.ths->q.kind≠0:=fun q hq e=>by have:=o.rv.kind q hq;omega
theorem a1C {o:ThR} {i:Nat} (h:o.fl[i]?=some y):o.abs.2.getD (i:Int).toNat (0,0)=y:=by
 show o.fl.getD _ _=y;rw[Int.toNat_natCast,List.getD_eq_getElem?_getD,h];rfl
theorem a9m (o:OpR W own mb g R t fs f 19 a rest [x]):Calls prog 100 #[zB mb] W fun e w'=>G4 own mb g R (doD g R.cap 19 a (R.ths.map ThR.slot) R.abs (fs.map FrR.abs) f.abs rest [x]) W e w':=by
 obtain⟨sb,sc,la,lc,xe,xc,xg,hc⟩:=o.at1;have hb:=o.bds;have xd:=o.slen;simp only[List.length_cons,List.length_nil] at xd;have D:=o.doesP xe xc hc R5;have xb:B3 a 0 7=true:=o.leg;rw[E5] at xb;show Calls prog 100 _ W fun e w'=>G4 own mb g R (R.ths.map ThR.slot,cU R.abs (fs.map FrR.abs) f.abs rest x 1 (1,a)) W e w'
 unfold cU;rcases gT (ix:=(1,a)) (o.ref (v:=x) R6) (show (1:Int)≠0 by decide) with ⟨h1,h2⟩ | ⟨j,q,rfl,hq,xf,xa,hh⟩
 ·rw [h2,if_neg R4]
  exact o.trap R4 R4 R4 R4 (D fun V hV=>a3y (o.h.same hV) x a f.pc (hc V hV).1 (hc V hV).2.1 (hc V hV).2.2 R5 o.kz (o.ref R6) h1)
 ·have hn:=o.rv.fl hq
  rw[xf];rcases hh with ⟨i1,_⟩ | ⟨_,i2,_⟩ | ⟨_,_,i3,h3⟩ | ⟨i,y,hi,hy,h3⟩
  ·exact absurd rfl i1
  ·exact absurd xb.1 (by simp at i2;omega)
  ·rw [h3,if_neg R4]
   exact o.trap R4 R4 R4 R4 (D fun V hV=>a0Q (o.h.same hV) hq a f.pc R5 (hc V hV).1 (hc V hV).2.1 (hc V hV).2.2 R5 xa i3 R5 o.thn)
  ·obtain rfl:a=(i:Int):=congrArg Prod.snd hi
   rw[h3,if_pos rfl];refine o.goP R4 R4 R4 1 (f.pc+1) (dI:=1) (tI:=(f.pc:Int)+1) (push:=[y]) rfl rfl R5 R6 (by rw [o.stk,a1C hy];simp) (D fun V hV=>a7Q (o.h.same hV) hq i f.pc R5 (hc V hV).1 (hc V hV).2.1 (hc V hV).2.2 R5 xa hy R5 o.thn)
theorem a9P (o:OpR W own mb g R t fs f 21 a rest [x,ix]):Calls prog 100 #[zB mb] W fun e w'=>G4 own mb g R (doD g R.cap 21 a (R.ths.map ThR.slot) R.abs (fs.map FrR.abs) f.abs rest [x,ix]) W e w':=by
 obtain⟨sb,sc,la,lc,xd,xb,xf,hc⟩:=o.at2;have hb:=o.bds;have xc:=o.slen;simp only[List.length_cons,List.length_nil] at xc;have HT:=fun V hV=>And.intro (hc V hV).1 (hc V hV).2.2.2
 have D:=o.doesP (m:=rest.length+1) xd xb HT R5;show Calls prog 100 _ W fun e w'=>G4 own mb g R (R.ths.map ThR.slot,cU R.abs (fs.map FrR.abs) f.abs rest x 2 ix) W e w'
 unfold cU;rcases gT (ix:=ix) (o.ref (v:=x) R6) (show (2:Int)≠0 by decide) with ⟨h1,h2⟩ | ⟨j,q,rfl,hq,xe,xa,hh⟩
 ·rw [h2,if_neg R4]
  exact o.trap R4 R4 R4 R4 (D fun V hV=>a5M (o.h.same hV) x ix a f.pc (hc V hV).1 (hc V hV).2.1 (hc V hV).2.2.1 (hc V hV).2.2.2.1 (hc V hV).2.2.2.2 R5 o.kz (o.ref R6) h1)
 ·have hn:=o.rv.fl hq
  rw[xe];rcases hh with ⟨i1,h3⟩ | ⟨i1,i2,h3⟩ | ⟨i1,i2,i3,h3⟩ | ⟨i,y,hi,hy,h3⟩
  ·rw [h3,if_neg R4]
   exact o.trap R4 R4 R4 R4 (D fun V hV=>a3p (o.h.same hV) hq ix a f.pc R5 (hc V hV).1 (hc V hV).2.1 (hc V hV).2.2.1 (hc V hV).2.2.2.1 (hc V hV).2.2.2.2 R5 xa i1 R5 o.thn)
  ·rw [h3,if_neg R4]
   exact o.trap R4 R4 R4 R4 (D fun V hV=>a7P (o.h.same hV) hq ix a f.pc R5 (hc V hV).1 (hc V hV).2.1 (hc V hV).2.2.1 (hc V hV).2.2.2.1 (hc V hV).2.2.2.2 R5 xa i1 i2 R5 o.thn)
  ·rw [h3,if_neg R4]
   exact o.trap R4 R4 R4 R4 (D fun V hV=>a7O (o.h.same hV) hq ix a f.pc R5 (hc V hV).1 (hc V hV).2.1 (hc V hV).2.2.1 (hc V hV).2.2.2.1 (hc V hV).2.2.2.2 R5 xa i1 i2 i3 R5 o.thn)
  ·subst hi
   rw[h3,if_pos rfl];refine o.goP R4 R4 R4 2 (f.pc+1) (dI:=2) (tI:=(f.pc:Int)+1) (push:=[y]) rfl rfl R5 R6 (by rw [o.stk,a1C hy];simp) (D fun V hV=>a9g (o.h.same hV) hq (1,(i:Int)) a i f.pc R5 (hc V hV).1 (hc V hV).2.1 (hc V hV).2.2.1 (hc V hV).2.2.2.1 (hc V hV).2.2.2.2 R5 xa rfl hy R5 o.thn)
theorem OpR.put_end (o:OpR W own mb g R t fs f k a rest args) {j i drop:Nat} {q:ThR} {y:Val} (hq:R.ths[j]?=some q) (hd:drop=args.length) {R':RfR} {sv:Value} {l:List Val} (e:R'={ R with ths:=R.ths.set j { q with fl:=q.fl.set i y } }) (hfr:R'.frs=fs++[{ f with loc:=l }]) :
  R'.cap=R.cap/\(R'.ths.map ThR.slot,RfR.abs { R' with frs:=fs++[{ f with loc:=l,pc:=f.pc+1,sv:=sv,stk:=f.stk.take (f.stk.length - drop)++[] }] })=(R.ths.map ThR.slot,(⟨0,R.abs.out,fs.map FrR.abs++[⟨f.abs.fn,f.abs.pc+1,f.abs.loc,rest⟩],R.abs.obs.set ((2,(j:Int)):Val).2.toNat (q.abs.1,q.abs.2.set (i:Int).toNat y),R.abs.dr⟩:McA))/\∀b q,R'.da=some ⟨b,q,none⟩->∃q',R.da=some ⟨b,q',none⟩:=by
 subst e;have xa:fs++[f]=fs++[{ f with loc:=l }]:=by rw [<- o.hf];exact hfr
 have e2:f.loc=l:=by
  have:=List.append_cancel_left xa;simp only[List.cons.injEq,and_true] at this;rw[this]
 subst e2;refine⟨rfl,Prod.ext ?_ ?_,fun b q e=>⟨q,e⟩⟩
 ·show (R.ths.set j _).map ThR.slot=_
  refine List.ext_getElem? fun p=>?_
  rw[List.getElem?_map,List.getElem?_map,List.getElem?_set];split
  ·rename_i e
   subst e;split
   ·rw [hq];rfl
   ·rename_i hlt
    rw[List.getElem?_eq_none R5]
  ·rfl
 ·show (⟨R.st,R.out,(fs++[_]).map FrR.abs,(R.ths.set j _).map ThR.abs,R.dr⟩:McA)=_
  rw[o.st,List.map_append,List.map_cons,List.map_nil,o.stk,hd];rw[List.map_set];simp[FrR.abs,RfR.abs,ThR.abs]
theorem a9r (o:OpR W own mb g R t fs f 20 a rest [x,y]):Calls prog 100 #[zB mb] W fun e w'=>G4 own mb g R (doD g R.cap 20 a (R.ths.map ThR.slot) R.abs (fs.map FrR.abs) f.abs rest [x,y]) W e w':=by
 obtain⟨sb,sc,la,lc,xf,xa,xb,hc⟩:=o.at2;have hb:=o.bds;have xc:=o.slen;simp only[List.length_cons,List.length_nil] at xc;have HT:=fun V hV=>And.intro (hc V hV).1 (hc V hV).2.2.2
 have D:=o.doesP (m:=rest.length+1) xf xa HT R5;have xe:B3 a 0 7=true:=o.leg;rw[E5] at xe;show Calls prog 100 _ W fun e w'=>G4 own mb g R (R.ths.map ThR.slot,setE R.abs (fs.map FrR.abs) f.abs rest x 1 (1,a) y) W e w'
 unfold setE;rcases gT (ix:=(1,a)) (o.ref (v:=x) R6) (show (1:Int)≠0 by decide) with ⟨h1,h2⟩ | ⟨j,q,rfl,hq,xg,xd,hh⟩
 ·rw [h2,if_neg R4]
  exact o.trap R4 R4 R4 R4 (D fun V hV=>a3D (o.h.same hV) x y a f.pc (hc V hV).1 (hc V hV).2.1 (hc V hV).2.2.1 (hc V hV).2.2.2.1 (hc V hV).2.2.2.2 R5 o.kz (o.ref R6) h1)
 ·have hn:=o.rv.fl hq
  rw[xg];rcases hh with ⟨i1,_⟩ | ⟨_,i2,_⟩ | ⟨_,_,i3,h3⟩ | ⟨i,z,hi,hz,h3⟩
  ·exact absurd rfl i1
  ·exact absurd xe.1 (by simp at i2;omega)
  ·rw [h3,if_neg R4]
   exact o.trap R4 R4 R4 R4 (D fun V hV=>a0T (o.h.same hV) hq y a f.pc R5 (hc V hV).1 (hc V hV).2.1 (hc V hV).2.2.1 (hc V hV).2.2.2.1 (hc V hV).2.2.2.2 R5 xd i3 R5 o.thn)
  ·obtain rfl:a=(i:Int):=congrArg Prod.snd hi
   rw[h3,if_pos rfl];refine o.go R4 R4 R4 (drop:=2) (to:=f.pc+1) (push:=[]) (P:=fun R'=>R'={ R with ths:=R.ths.set j { q with fl:=q.fl.set i y } }) (by rw [xc];omega) R4 (fun R' e=>?_) (fun U hB=>?_) (fun R' sv l e hfr=>o.put_end hq rfl e hfr)
   ·subst e
    exact⟨⟨f.loc,by show R.frs=_;rw [o.hf]⟩,rfl,fun b q hq=>(o.h.dro b q hq).1⟩
   ·exact o.does (m:=rest.length+1) xf xa HT R5 (fun R' e b q hq=>by subst e;exact (o.h.dro b q hq).1) (fun V hV=>a7T (o.h.same hV) hq y i f.pc R5 (fun b hb' e=>by rw [e,hb'] at xb;cases xb) (hc V hV).1 (hc V hV).2.1 (hc V hV).2.2.1 (hc V hV).2.2.2.1 (hc V hV).2.2.2.2 R5 xd hz R5 o.thn) (by simp [fV];try rfl) U hB
theorem a9s (o:OpR W own mb g R t fs f 22 a rest [x,ix,y]):Calls prog 100 #[zB mb] W fun e w'=>G4 own mb g R (doD g R.cap 22 a (R.ths.map ThR.slot) R.abs (fs.map FrR.abs) f.abs rest [x,ix,y]) W e w':=by
 obtain⟨sb,sc,la,lc,xe,xb,xc,hc⟩:=o.at3;have hb:=o.bds;have xd:=o.slen;simp only[List.length_cons,List.length_nil] at xd;have HT:=fun V hV=>And.intro (hc V hV).1 (hc V hV).2.2.2.2.2
 have D:=o.doesP (m:=rest.length+2) xe xb HT R5;show Calls prog 100 _ W fun e w'=>G4 own mb g R (R.ths.map ThR.slot,setE R.abs (fs.map FrR.abs) f.abs rest x 2 ix y) W e w'
 unfold setE;rcases gT (ix:=ix) (o.ref (v:=x) R6) (show (2:Int)≠0 by decide) with ⟨h1,h2⟩ | ⟨j,q,rfl,hq,xf,xa,hh⟩
 ·rw [h2,if_neg R4]
  exact o.trap R4 R4 R4 R4 (D fun V hV=>a3I (o.h.same hV) x ix y a f.pc (hc V hV).1 (hc V hV).2.1 (hc V hV).2.2.1 (hc V hV).2.2.2.1 (hc V hV).2.2.2.2.1 (hc V hV).2.2.2.2.2.1 (hc V hV).2.2.2.2.2.2 R5 o.kz (o.ref R6) h1)
 ·have hn:=o.rv.fl hq
  rw[xf];rcases hh with ⟨i1,h3⟩ | ⟨i1,i2,h3⟩ | ⟨i1,i2,i3,h3⟩ | ⟨i,z,hi,hz,h3⟩
  ·rw [h3,if_neg R4]
   exact o.trap R4 R4 R4 R4 (D fun V hV=>a0X (o.h.same hV) hq ix y a f.pc R5 (hc V hV).1 (hc V hV).2.1 (hc V hV).2.2.1 (hc V hV).2.2.2.1 (hc V hV).2.2.2.2.1 (hc V hV).2.2.2.2.2.1 (hc V hV).2.2.2.2.2.2 R5 xa i1 R5 o.thn)
  ·rw [h3,if_neg R4]
   exact o.trap R4 R4 R4 R4 (D fun V hV=>a6e (o.h.same hV) hq ix y a f.pc R5 (hc V hV).1 (hc V hV).2.1 (hc V hV).2.2.1 (hc V hV).2.2.2.1 (hc V hV).2.2.2.2.1 (hc V hV).2.2.2.2.2.1 (hc V hV).2.2.2.2.2.2 R5 xa i1 i2 R5 o.thn)
  ·rw [h3,if_neg R4]
   exact o.trap R4 R4 R4 R4 (D fun V hV=>a6d (o.h.same hV) hq ix y a f.pc R5 (hc V hV).1 (hc V hV).2.1 (hc V hV).2.2.1 (hc V hV).2.2.2.1 (hc V hV).2.2.2.2.1 (hc V hV).2.2.2.2.2.1 (hc V hV).2.2.2.2.2.2 R5 xa i1 i2 i3 R5 o.thn)
  ·subst hi
   rw[h3,if_pos rfl];refine o.go R4 R4 R4 (drop:=3) (to:=f.pc+1) (push:=[]) (P:=fun R'=>R'={ R with ths:=R.ths.set j { q with fl:=q.fl.set i y } }) (by rw [xd];omega) R4 (fun R' e=>?_) (fun U hB=>?_) (fun R' sv l e hfr=>o.put_end hq rfl e hfr)
   ·subst e
    exact⟨⟨f.loc,by show R.frs=_;rw [o.hf]⟩,rfl,fun b q hq=>(o.h.dro b q hq).1⟩
   ·exact o.does (m:=rest.length+2) xe xb HT R5 (fun R' e b q hq=>by subst e;exact (o.h.dro b q hq).1) (fun V hV=>a7Y (o.h.same hV) hq (1,(i:Int)) y a i f.pc R5 (fun b hb' e=>by rw [e,hb'] at xc;cases xc) (hc V hV).1 (hc V hV).2.1 (hc V hV).2.2.1 (hc V hV).2.2.2.1 (hc V hV).2.2.2.2.1 (hc V hV).2.2.2.2.2.1 (hc V hV).2.2.2.2.2.2 R5 xa rfl hz R5 o.thn) (by simp [fV];try rfl) U hB
theorem a9o (o:OpR W own mb g R t fs f 23 a rest [x]):Calls prog 100 #[zB mb] W fun e w'=>G4 own mb g R (doD g R.cap 23 a (R.ths.map ThR.slot) R.abs (fs.map FrR.abs) f.abs rest [x]) W e w':=by
 obtain⟨sb,sc,la,lc,xd,xa,xe,hc⟩:=o.at1;have hb:=o.bds;have xc:=o.slen;simp only[List.length_cons,List.length_nil] at xc;have D:=o.doesP xd xa hc R5;show Calls prog 100 _ W fun e w'=>G4 own mb g R (R.ths.map ThR.slot,if (A1 R.abs.obs x).1=1\/(A1 R.abs.obs x).1=2 then goA R.abs (fs.map FrR.abs) f.abs (f.pc+1) (rest++[(1,((A1 R.abs.obs x).2.length:Int))]) else D4 R.abs 2) W e w'
 by_cases hk:(A1 R.abs.obs x).1=1\/(A1 R.abs.obs x).1=2
 ·rw [if_pos hk]
  obtain⟨j,q,rfl,hq,xb⟩:=X1 (o.ref (v:=x) R6) R5;have hn:=o.rv.fl hq;rw[xb] at hk ⊢;refine o.goP R4 R4 R4 1 (f.pc+1) (dI:=1) (tI:=(f.pc:Int)+1) (push:=[(1,(q.fl.length:Int))]) rfl rfl R5 R6 (by rw [o.stk];simp [ThR.abs]) (D fun V hV=>a7R (o.h.same hV) hq a f.pc R5 hk R5 o.thn)
 ·rw [if_neg hk]
  exact o.trap R4 R4 R4 R4 (D fun V hV=>a3z (o.h.same hV) x a f.pc o.rv.kind (o.ref R6) (fun e=>hk (L4a e)) (fun e=>hk (L4b e)))
theorem a3S (o:OpR W own mb g R t fs f 24 a rest [x]):Calls prog 100 #[zB mb] W fun e w'=>G4 own mb g R (doD g R.cap 24 a (R.ths.map ThR.slot) R.abs (fs.map FrR.abs) f.abs rest [x]) W e w':=by
 obtain⟨sb,sc,la,lc,xi,xc,xl,hc⟩:=o.at1;have hb:=o.bds;have xd:=o.slen;simp only[List.length_cons,List.length_nil] at xd;have D:=o.doesP xi xc hc R5;show Calls prog 100 _ W fun e w'=>G4 own mb g R (R.ths.map ThR.slot,if (A1 R.abs.obs x).1=3 then goA R.abs (fs.map FrR.abs) f.abs (f.pc+1) (rest++[T7 R.abs ((A1 R.abs.obs x).2.headD (0,0))]) else D4 R.abs 2) W e w'
 by_cases hk:(A1 R.abs.obs x).1=3
 ·rw [if_pos hk]
  obtain⟨j,q,rfl,hq,xk⟩:=X1 (o.ref (v:=x) R6) R5;have hn:=o.rv.fl hq;have xg:=o.rv.sl.weak q (L2a hq);have xf:=o.rv.rin.flds q (L2a hq);rw[xk] at hk ⊢;have xa:q.kind=3:=hk;obtain⟨v,hv⟩:=List.length_eq_one_iff.1 (xg xa);have hh:(q.abs.2.headD (0,0))=v:=by show q.fl.headD (0,0)=v;rw [hv];rfl
  rw[hh];by_cases h2:v.1=2
  ·obtain ⟨h0,_⟩:=xf v (by rw [hv];simp) h2
   obtain⟨i,hi⟩:=L5c h0;obtain rfl:v=(2,(i:Int)):=Prod.ext h2 hi;by_cases hal:i∈A0 R.abs
   ·have e:T7 R.abs (2,(i:Int))=(2,(i:Int)):=if_pos ⟨rfl,by simpa using hal⟩
    rw[e];refine o.goP R4 R4 R4 1 (f.pc+1) (dI:=1) (tI:=(f.pc:Int)+1) (push:=[(2,(i:Int))]) rfl rfl R5 R6 (by rw [o.stk];simp) (D fun V hV=>uB (o.h.same hV) hq a f.pc R5 xa hv o.bd o.rv.rin hal R5 o.thn)
   ·have e:T7 R.abs (2,(i:Int))=(0,0):=if_neg fun hc=>hal (by simpa using hc.2)
    rw[e];refine o.goP R4 R4 R4 1 (f.pc+1) (dI:=1) (tI:=(f.pc:Int)+1) (push:=[(0,0)]) rfl rfl R5 R6 (by rw [o.stk];simp) (D fun V hV=>tZ (o.h.same hV) hq a f.pc R5 xa hv o.bd o.rv.rin hal R5 o.thn)
  ·have xh:=o.rv.v.vals (2,(j:Int)) (I2.2 ⟨f.abs,by rw [o.hfA];simp,by show _∈f.loc++f.stk;rw [o.stk];simp⟩) rfl
   obtain⟨p,xb,xj⟩:=o.rv.v.get xh.2;have e1:p=q.abs:=by
    have:R.abs.obs[((2,(j:Int)):Val).2.toNat]?=some q.abs:=by show (R.ths.map ThR.abs)[(j:Int).toNat]?=_;rw [Int.toNat_natCast,List.getElem?_map,hq];rfl
    rw[this] at xb;exact (L5b xb).symm
   subst e1;have hw:=(lB o.rv.i xj hk).2;have e2:((q.abs.1,q.abs.2.map (ren (sig (R.ths.map ThR.slot)))):Ob).2.headD (0,0)=v:=by
    show (q.fl.map _).headD _=v;rw[hv];exact I8 h2
   rw[e2] at hw;have xe:=hw h2;subst xe;have e:T7 R.abs (0,0)=(0,0):=if_neg fun hc=>by cases hc.1
   rw[e];refine o.goP R4 R4 R4 1 (f.pc+1) (dI:=1) (tI:=(f.pc:Int)+1) (push:=[(0,0)]) rfl rfl R5 R6 (by rw [o.stk];simp) (D fun V hV=>qV (o.h.same hV) hq a f.pc R5 xa hv h2 R5 o.thn)
 ·rw [if_neg hk]
  exact o.trap R4 R4 R4 R4 (D fun V hV=>uA (o.h.same hV) x a f.pc o.rv.kind (o.ref R6) hk)
end
end
end Go.Proofs.YtbkmgoffiigdbaaGreatDoor
