import Derived.Test.YtbkmgoffiigdbaaGreatDoorWBi
namespace Go.Proofs.YtbkmgoffiigdbaaGreatDoor
open Go.RowKit Go.Sort Go.Proofs.Tryz
set_option maxHeartbeats 4000000
set_option maxRecDepth 100000
section
variable {R:RfR} {W:World} {f:FrR} {fs:List FrR} {g:PgR} {l:List Val} {mb:Nat} {own:Own}
theorem L2 {P:Program} {w:World} {ops:Array Oper} {o:Oper} {a:Act} {K:Act->World->Prop} {Q:Exit->Act->World->Prop} {E:Prop} (hgd:o.guard=none) (s x:Operand) (t:TypeId)
  (ho:o.op=.call { callee:=.builtin .append,args:=#[s,x],argTypes:=#[t,t] })
  (base:Nat) (e:TypeId) (i:TypeInfo) (z:Value) (size bytes:Nat) (ht:P.underlying t=some (.slice e)) (hi:P.info? e=some i) (hz:i.zero=some z)
  (hsize:i.size=size) (hby:i.bytes=bytes) (hzs:z.cells.size=size) (hsz:0 < size)
  (v:Value) (n:Nat) (xs:List Value) (hs:a.eval s=v) (hown:w.ownsRow base e size v n xs)
  (ad:Option Addr) (m c:Nat) (news:List Value) (hx:a.eval x=.slice ad m c) (hl:news.length=m*size) (hnews:0 < m->∃d,ad=some d/\∀j u,news[j]?=some u->w.cell? (d.add j)=some u) (h1:∀u∈news,u.oneCell'=true)
  (h63:n+m<=maxLen) (hbytes:(n+m)*bytes<=140737488355328) (hbase:base<=w.heap.size)
  (h:∀v' w',w'.ownsRow base e size v' (n+m) (xs++news)->w.grownBy w' v.ownBlock->(∀g,v'.ownBlock=some g->v.ownBlock=some g\/g=w.heap.size)->K (a.put o.dst v') w') :
  if Region.wanted o (yielded ops a.tmps)=true then Oper.wp P o a w K Q else E:=by
 have hw:Region.wanted o (yielded ops a.tmps)=true:=by simp [Region.wanted,hgd]
 rw[if_pos hw];exact fM w s x t ho base e i z size bytes ht hi hz hsize hby hzs hsz v n xs hs hown ad m c news hx hl hnews h1 h63 hbytes hbase h
theorem O5.take {B:Nat} {a:Option Addr} (h:O5 W B a l) (k:Nat):O5 W B a (l.take k):=fun h0=>by
 rw[List.length_take] at h0;obtain⟨b,e,hb,hc⟩:=h R4;refine⟨b,e,hb,fun i x hx=>hc i x ?_⟩;rw[List.getElem?_take] at hx;split at hx
 ·exact hx
 ·cases hx
theorem A8.front (h:A8 W own mb g R) (hf:R.frs=fs++[f]) (hfn:f.fn < g.n) (hpc:f.pc < (g.f f.fn).n) :
  ∃cb cc,R.cv=.slice (some ⟨cb,0,none⟩) (fs.length+1) cc/\W.cell? ⟨mb,4,none⟩=some (.slice (some ⟨cb,0,none⟩) (fs.length+1) cc)/\cb < W.heap.size/\own cb=some .called/\(∀j,W.frozen? ⟨cb,j,none⟩=false) /\
   W.cell? ⟨cb,fs.length*4,none⟩=some (.int .i64 (f.fn:Int))/\W.cell? ⟨cb,fs.length*4+1,none⟩=some (.int .i64 (f.pc:Int))/\W.cell? ⟨cb,fs.length*4+2,none⟩=some f.lv/\W.cell? ⟨cb,fs.length*4+3,none⟩=some f.sv /\
   W.cell? ⟨mb,0,none⟩=some (.slice (some ⟨g.b,g.o,none⟩) g.n g.c)/\g.b < W.heap.size/\W.cell? ⟨g.b,g.o+f.fn*3+2,none⟩=some (.slice (some ⟨(g.f f.fn).b,(g.f f.fn).o,none⟩) (g.f f.fn).n (g.f f.fn).c)/\(g.f f.fn).b < W.heap.size /\
   W.cell? ⟨(g.f f.fn).b,(g.f f.fn).o+f.pc*2,none⟩=some (.int .i64 ((g.f f.fn).op f.pc))/\W.cell? ⟨(g.f f.fn).b,(g.f f.fn).o+f.pc*2+1,none⟩=some (.int .i64 ((g.f f.fn).ar f.pc)):=by
 obtain⟨a,cp,hv,_,hc⟩:=Row.cells FrR.cells_len h.called;have hl:R.frs.length=fs.length+1:=by rw [hf];simp
 have xb:R.frs[fs.length]?=some f:=by rw [hf];simp
 obtain⟨cb,rfl,xd,xc,hz,xa⟩:=hc R4;obtain⟨g1,g2,g3⟩:=h.pg.2.1 R4;obtain⟨q1,q2,q3⟩:=(h.pg.2.2 f.fn hfn).2 R4;have m0:=h.c0;rw[g1] at m0;have x2:=(g3 f.fn hfn).2.2;rw[q1] at x2;have m4:=h.c4;rw[hv,hl] at m4;exact⟨cb,cp,by rw [hv,hl],m4,xd,xc,hz,xa fs.length 0 f _ xb R3 rfl,xa fs.length 1 f _ xb R3 rfl,xa fs.length 2 f _ xb R3 rfl,xa fs.length 3 f _ xb R3 rfl,m0,g2,x2,q2,(q3 f.pc hpc).1,(q3 f.pc hpc).2⟩
theorem a3H {w1 w3:World} {own1:Own} {R1:RfR} {f:FrR} {push:List Val} {cb cc k drop to:Nat} {va:Option Addr} {vc:Nat} (h1:A8 w1 own1 mb g R1) (hfr:R1.frs=fs++[{ f with loc:=l }]) (hcv:R1.cv=.slice (some ⟨cb,0,none⟩) (fs.length+1) cc) (hB3:L0d w1 w3) (hk:f.stk.length=k+drop)
  (hown:w3.ownsRow w1.heap.size 92 2 (.slice va (k+push.length) vc) (k+push.length) (A5 (f.stk.take k)++A5 push)) (hT:A2 own W own1 w1) :
  ∃own2,A8 ((w3.setCell ⟨cb,fs.length*4+3,none⟩ (.slice va (k+push.length) vc)).setCell ⟨cb,fs.length*4+1,none⟩ (.int .i64 (to:Int))) own2 mb g { R1 with frs:=fs++[{ f with loc:=l,pc:=to,sv:=.slice va (k+push.length) vc,stk:=f.stk.take (f.stk.length - drop)++push }] } /\
   A2 own W own2 ((w3.setCell ⟨cb,fs.length*4+3,none⟩ (.slice va (k+push.length) vc)).setCell ⟨cb,fs.length*4+1,none⟩ (.int .i64 (to:Int))):=by
 have xg:R1.frs.length=fs.length+1:=by rw [hfr];simp
 have xd:f.stk.length - drop=k:=by omega
 have xe:(f.stk.take k++push).length=k+push.length:=by rw [List.length_append,List.length_take];omega
 have xc:∀b,(Value.slice va (k+push.length) vc).ownBlock=some b->w1.heap.size<=b:=fun b hb=>(hown.lt b hb).1
 have xf:N4 own1 g (.slice va (k+push.length) vc):=fun b hb=>by
  have:=xc b hb;refine⟨?_,fun q hq e=>?_,fun e=>?_⟩
  ·cases e:own1 b with
   | none=>rfl
   | some t=>have:=h1.lt b t e;omega
  ·have:=h1.pg.blk_lt hq;omega
  ·have:=h1.lt _ _ h1.me;omega
 have xb:own1 cb=some .called:=h1.called.2 cb (by rw [hcv];rfl);obtain⟨hF,xa⟩:=(h1.same hB3).goOn (f:={ f with loc:=l }) (cc:=cc) (sv:=.slice va (k+push.length) vc) (stk:=f.stk.take k++push) (to:=to) hfr (by rw [hcv,xg]) (by rw [xe,G5];exact eT hown (L4c _)) xf (fun b o e hb=>by
  have:=(h1.dro b o e).1;have:=xc b hb;omega)
 refine⟨own1.upd (Value.slice va (k+push.length) vc).ownBlock (.stk fs.length),by rw [xd];exact hF,hT.trans ⟨hB3.os,hB3.tape,hB3.output,by simpa using hB3.size,fun q hq hn=>?_,fun q hq=>?_⟩⟩
 ·rw [xa q (fun e=>by rw [e,xb] at hn;cases hn)]
  exact hB3.block q hq
 ·unfold Own.upd
  rw[if_neg (fun e=>by have:=xc q e;omega)]
theorem a5s {f:FrR} (h:A8 W own mb g R) (hf:R.frs=fs++[f]) (hfn:f.fn < g.n) (hpc:f.pc < (g.f f.fn).n) (hgn:g.n<=1000) (hcn:(g.f f.fn).n<=1000) (hfs:fs.length<=1000) (hstn:f.stk.length<=1000)
  (h14:(g.f f.fn).op f.pc≠14) (h15:(g.f f.fn).op f.pc≠15) (h27:(g.f f.fn).op f.pc≠27) {P:RfR->Prop} {drop to:Nat} {push:List Val} (hdr:drop<=f.stk.length) (hpu:push.length<=1000)
  (hP:∀R',P R'->(∃l,R'.frs=fs++[{ f with loc:=l }])/\R'.cv=R.cv/\∀b o,R'.da=some ⟨b,o,none⟩->b < W.heap.size)
  (hdo:∀U,L0d W U->Calls prog 139 #[.pointer (some ⟨mb,0,none⟩),.agg #[.int .i64 ((g.f f.fn).op f.pc),.int .i64 ((g.f f.fn).ar f.pc)],.agg #[.int .i64 (f.fn:Int),.int .i64 (f.pc:Int),f.lv,f.sv]] U fun e w'=>J6 own mb g P (drop:Int) push (to:Int) 0 U e w') :
  Calls prog 100 #[.pointer (some ⟨mb,0,none⟩)] W fun e w'=>e=.returned (.tuple #[])/\∃own' R' sv l,P R'/\R'.frs=fs++[{ f with loc:=l }]/\A8 w' own' mb g { R' with frs:=fs++[{ f with loc:=l,pc:=to,sv:=sv,stk:=f.stk.take (f.stk.length - drop)++push }] }/\A2 own W own' w':=by
 obtain⟨xj,hi,hz,yz,ym⟩:=info_parts I2;have HI:=hid hi;have HZ:=hid hz;have yk:=hid yz;have yn:=hid ym;have zm:=h.lt _ _ h.me;obtain⟨cb,cc,yt,m4,zd,yg,zf,k0,k1,k2,k3,m0,zt,x2,zx,y0,y1⟩:=h.front hf hfn hpc;obtain⟨sa,sc,ye,za,zn⟩:=(h.stk fs.length f (by rw [hf];simp)).vals;obtain⟨la,lc,yx,_,_⟩:=(h.loc fs.length f (by rw [hf];simp)).vals;have yc:Hid (∀k,W.heap.size<=k->own k=none):=hid fun k hk=>by
  cases e:own k with
  | none=>rfl
  | some t=>have:=h.lt k t e;omega
 have HH:=hid h;have xq:=hid hdo;have HP:=hid hP;have yu:=hid yt;have HF:=hid hf;have yl:=hid ye;rw[yx] at k2 xq;rw[ye] at k3 xq;generalize hop:(g.f f.fn).op f.pc=op at *
 generalize har:(g.f f.fn).ar f.pc=ar at *
 have zo:(op == 14)=false:=L2c.2 h14;have zs:(op == 15)=false:=L2c.2 h15;have zw:(op == 27)=false:=L2c.2 h27;have zk:(f.fn:Int) < (g.n:Int):=(fun (_:g.n<=1000) (_:(g.f f.fn).n<=1000) (_:fs.length<=1000) (_:f.stk.length<=1000) (_:push.length<=1000) (_:drop<=f.stk.length)=>by omega) hgn hcn hfs hstn hpu hdr;have zq:(f.pc:Int) < ((g.f f.fn).n:Int):=by omega
 have xz:mb < W.heap.size+1:=by omega
 have xw:g.b < W.heap.size+1:=by omega
 have yd:(g.f f.fn).b < W.heap.size+1:=by omega
 obtain⟨k,yr⟩:∃k,f.stk.length=k+drop:=⟨f.stk.length - drop,by omega⟩
 have yh:=hid yr;rw[yr] at k3 xq yl za;have zg:k<=sc:=by omega
 have yv:(k:Int)<=(sc:Int):=by omega
 clear hi hz yz ym h hdo hP yt hf ye yx zn zf hop har;go_enter func100,ntmps100;go_wp2_with fail;go_region
 go_wp2_with fail;refine (xq.out _ P4).mono ?_;rintro e w1 ⟨xx,R1,pa,yb,rfl,xi,xu,xr,yy,yj⟩;have yp:=xr.block W.heap.size Q8 (yc.out _ (L1c _));have b3:w1.cell? ⟨W.heap.size,3,none⟩=some (.slice sa (k+drop) sc):=(L0b (a:=⟨W.heap.size,3,none⟩) yp).trans Q9
 obtain⟨⟨l1,xe⟩,hcv1,hda1⟩:=HP.out R1 xu;obtain⟨xp,cc1,e1,n4,xa,ys,xh,j0,j1,j2,j3,_,_,_,_,_,_⟩:=xi.front xe hfn hpc;have e2:Value.slice (some ⟨cb,0,none⟩) (fs.length+1) cc=.slice (some ⟨xp,0,none⟩) (fs.length+1) cc1:=by rw [<- yu.out,<- hcv1];exact e1
 have e3:xp=cb:=by injection e2 with q _ _;injection q with q;injection q with q;exact q.symm
 have e4:cc1=cc:=by injection e2 with _ _ q;exact q.symm
 subst e3;subst e4;have yf:=(xi.stk fs.length { f with loc:=l1 } (by rw [xe];simp)).vals;obtain⟨xs,sc1,e5,_,yq⟩:=yf;have e6:xs=sa:=by
  have e7:Value.slice sa (k+drop) sc=.slice xs f.stk.length sc1:=by rw [<- yl.out];exact e5
  injection e7 with q _ _
  exact q.symm
 subst e6;have xy:Hid (∀X,L0d w1 X->(0 < k->∃d,xs=some d/\∀j u,(A5 (f.stk.take k))[j]?=some u->X.cell? (d.add j)=some u)):=hid fun X hX h0=>by
  have:=((yq.take k).later hX).src (by rw [List.length_take,yh.out];omega);exact this
 have zp:=hid xi;have zr:=hid xu;have zy:Hid (A2 own W xx w1):=hid ((A2.of_below P4).trans xr);have zi:Hid (w1.ownsRow W.heap.size 92 2 (.slice pa push.length yb) push.length (A5 push)):=hid (eT yy Q2)
 have zz:=hid yj;have ya:=hid hcv1;have zc:=hid hda1;have xk:=hid xe;have xd:=xi.lt _ _ xi.me;have qc:W.heap.size < w1.heap.size:=L0a Q8 xr.size;have yi:=xh (fs.length*4+3);have yo:=xh (fs.length*4+1);have yw:xp < w1.heap.size+1:=by omega
 have zj:mb < w1.heap.size+1:=by omega
 have qa:W.heap.size < w1.heap.size+1:=by omega
 have xg:(A5 (f.stk.take k)).length=k*2:=by rw [D3,List.length_take,yh.out,Nat.min_eq_left R4]
 have zh:=hid xg;clear xi xu xr yy yj yp hcv1 hda1 xe yq e1 e2 e5 xh xg m4 zd yg k0 k1 k2 k3 m0 zt x2 zx y0 y1 zm xz xw yd;go_wp2_with (at_builtin;go_must (refine A9 _ rfl (.tmp 72) (.tmp 81) 84 rfl w1.heap.size 92 xj _ 2 16 underlying84 HI.out HZ.out yk.out yn.out rfl R3 _ 0 [] rfl (World.ownsRow_nil _ _ _ _) xs k sc (A5 (f.stk.take k)) rfl zh.out (xy.out _ P4) (W5 _) Q5 R4 R5 ?_))
 intro v2 w2 hown2 hgrow2 hat2;have xc:L0d w1 w2:=Below.grown (L3a (L3b _ _) (L1c _) _) hgrow2 R5 (fun q e=>by cases e);have xt:=hgrow2.block w1.heap.size R5 (fun e=>by cases e);have s1:w2.cell? ⟨w1.heap.size,1,none⟩=some (.slice pa push.length yb):=(L0b (a:=⟨w1.heap.size,1,none⟩) xt).trans Q9;have s2:w2.cell? ⟨w1.heap.size,2,none⟩=some (.int .i64 (to:Int)):=(L0b (a:=⟨w1.heap.size,2,none⟩) xt).trans Q9
 have xo:w1.heap.size < w2.heap.size:=L0a R5 hgrow2.size;have xm:∀q,v2.ownBlock=some q->q=w1.heap.size+1:=fun q e=>by
  rcases hat2 q e with e | e
  ·cases e
  ·exact e
 have o4:=keep xc xd n4;have o1:=keep xc xa j1;have o3:=keep xc xa j3;have qb:=B9 xc xa yo;have qd:=B9 xc xa yi;have om:mb < w2.heap.size:=L0a xd xc.size;have oc:xp < w2.heap.size:=L0a xa xc.size;have zu:=hid xc;have xb:=hid hown2;have xl:Hid (∀X,L0d w2 X->(0 < push.length->∃d,pa=some d/\∀j u,(A5 push)[j]?=some u->X.cell? (d.add j)=some u)):=hid fun X hX=>by
  obtain⟨zl,qe,e,_,hv⟩:=T4 zi.out;have e':zl=pa:=by injection e with q _ _;exact q.symm
  subst e';exact ((hv.later xc).later (hX.mono xc.size)).src
 have qf:(fs.length:Int) < (fs.length:Int)+1:=by omega
 have zv:(0:Int)<=(fs.length:Int):=by omega
 clear xc xt hown2 hgrow2 hat2 b3;go_wp2_with fail;go_region_law ((refine L2 rfl (.tmp 88) (.tmp 90) 84 rfl w1.heap.size 92 xj _ 2 16 underlying84 HI.out HZ.out yk.out yn.out rfl R3 v2 k (A5 (f.stk.take k)) Q3 (by repeat (first | exact xb.out | exact xb.out.drew | refine World.ownsRow.drew ?_)) pa push.length yb (A5 push) Q3 (D3 _) (xl.out _ (by repeat (first | exact L3b _ _ | refine L3c ?_))) (W5 _) Q5 R4 Q4 ?_;intro v3 w3 hown3 hgrow3 hat3;obtain ⟨va,vc,ze,_⟩:=B4 hown3;subst ze;have xf:=gY (L3c zu.out) (L1c _) xb.out.drew hgrow3;have p4:=keep xf xd n4;have r1:=keep xf xa j1;have r3:=keep xf xa j3;have y1:=B9 xf xa yo;have y3:=B9 xf xa yi;have s3:w3.cell? ⟨w1.heap.size,2,none⟩=some (.int .i64 (to:Int)):=(L0b (a:=⟨w1.heap.size,2,none⟩) (hgrow3.block w1.heap.size (by simpa using xo) (fun e=>by have:=(xm _ e.symm);omega))).trans (by first | exact s2 | (show w2.cell? _=_;exact s2));have u1:mb < w3.heap.size:=L0a xd xf.size;have u2:xp < w3.heap.size:=L0a xa xf.size;have u3:w1.heap.size < w3.heap.size:=L0a (by simpa using xo) hgrow3.size;have zb:=hid xf;have xn:=hid hown3;clear xf hown3 hgrow3 hat3))
 all_goals go_wp2_with fail
 all_goals go_region
 all_goals go_wp2_with fail
 all_goals
  obtain⟨xv,hF,hT⟩:=a3H (to:=to) (drop:=drop) zp.out xk.out (ya.out.trans yu.out) zb.out yh.out xn.out zy.out;go_end0
  exact⟨rfl,xv,R1,_,l1,zr.out,xk.out,hF.same (by repeat (first | refine L3c ?_ | exact L3b _ _)),hT.trans (A2.of_below (by repeat (first | refine L3c ?_ | exact L3b _ _)))⟩
end
end Go.Proofs.YtbkmgoffiigdbaaGreatDoor
