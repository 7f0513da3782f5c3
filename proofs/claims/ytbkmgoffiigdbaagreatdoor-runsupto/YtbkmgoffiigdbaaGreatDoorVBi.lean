import Derived.Test.YtbkmgoffiigdbaaGreatDoorVBh
namespace Go.Proofs.YtbkmgoffiigdbaaGreatDoor
open Go.RowKit Go.Sort Go.Proofs.Tryz
set_option maxHeartbeats 4000000
set_option maxRecDepth 100000
section
variable {cb cc mb:Nat} {f:FrR} {fs:List FrR} {g:PgR} {own:Own} {w:World}
theorem A8.setSt {R:RfR} (h:A8 w own mb g R) (st:Int) :
  A8 (w.setCell ⟨mb,2,none⟩ (.int .i64 st)) own mb g { R with st:=st }/\A2 own w own (w.setCell ⟨mb,2,none⟩ (.int .i64 st)):=by
 obtain⟨k1,k2⟩:=h.mach 2 (.int .i64 st);have hs:(w.setCell ⟨mb,2,none⟩ (.int .i64 st)).heap.size=w.heap.size:=by simp
 have keep:∀t,t≠.mach->∀k,own k=some t->(w.setCell ⟨mb,2,none⟩ (.int .i64 st)).heap[k]?=w.heap[k]?/\own k=some t:=fun t ht k e=>⟨k1 t k e ht,e⟩
 refine⟨h.edit (R':={ R with st:=st }) (by rw [hs];exact L1c _) (fun k t e=>by rw [hs];exact h.lt k t e) h.me (fun k hn _ _=>⟨hn,k2 k hn⟩) (B8 _ R3) ((B8 _ R3).trans h.c1) (World.cell?_setCell_same _ _ _ h.c2) ((B8 _ R3).trans h.c3) ((B8 _ R3).trans h.c4) ((B8 _ R3).trans h.c5) (B8 _ R3) (fun j=>by go_simp;exact h.fz j)
  (h.out.kept (keep _ R5)) (h.called.kept (keep _ R5)) (h.things.kept (keep _ R5)) (fun i x hx=>(h.loc i x hx).kept (keep _ R5)) (fun i x hx=>(h.stk i x hx).kept (keep _ R5)) (fun i x hx=>(h.fld i x hx).kept (keep _ R5)) (fun b o e=>(h.dro b o e).2) rfl rfl rfl,⟨rfl,rfl,rfl,by simp,fun k _ hn=>k2 k hn,fun _ _=>rfl⟩⟩
theorem A8.setTop {w':World} {R:RfR} {f':FrR} (h:A8 w own mb g R) (hf:R.frs=fs++[f]) (hcv:R.cv=.slice (some ⟨cb,0,none⟩) R.frs.length cc) (hlv:f'.lv=f.lv) (hloc:f'.loc=f.loc) (hsize:w.heap.size=w'.heap.size) (hk:∀k,k≠cb->w'.heap[k]?=w.heap[k]?)
  (hrow:w'.ownsRow 0 86 4 (.slice (some ⟨cb,0,none⟩) R.frs.length cc) R.frs.length ((fs++[f']).flatMap FrR.cells)) (hst:w.ownsRow 0 92 2 f'.sv f'.stk.length (A5 f'.stk)) (hnb:M9 own g f'.sv) (hnd:∀b o,R.da=some ⟨b,o,none⟩->f'.sv.ownBlock≠some b) :
  A8 w' (own.upd f'.sv.ownBlock (.stk fs.length)) mb g { R with frs:=fs++[f'] }:=by
 have xg:=h.lt;have xa:own cb=some .called:=h.called.2 cb (by rw [hcv];rfl);have xc:∀k t,own k=some t->(own.upd f'.sv.ownBlock (.stk fs.length)) k=some t:=fun k t e=>(hnb.upd e).trans e
 have keep:∀t,t≠.called->∀k,own k=some t->w'.heap[k]?=w.heap[k]?/\(own.upd f'.sv.ownBlock (.stk fs.length)) k=some t:=fun t ht k hk'=>⟨hk k (fun e=>by rw [e,xa] at hk';exact ht (Option.some.inj hk').symm),xc k t hk'⟩
 have xd:=(keep .mach R5 mb h.me).1;have kc:∀i,w'.cell? ⟨mb,i,none⟩=w.cell? ⟨mb,i,none⟩:=fun i=>L0b (w:=w) (a:=⟨mb,i,none⟩) xd
 have xf:(fs++[f']).length=R.frs.length:=by rw [hf];simp
 have xh:R.frs[fs.length]?=some f:=by rw [hf];simp
 have xb:∀i x,(fs++[f'])[i]?=some x->(i=fs.length/\x=f')\/(i < fs.length/\R.frs[i]?=some x):=fun i x hx=>by
  rcases Nat.lt_or_ge i fs.length with hl | hl
  ·rw [List.getElem?_append_left hl] at hx
   exact Or.inr ⟨hl,by rw [hf,List.getElem?_append_left hl];exact hx⟩
  ·rw [List.getElem?_append_right hl] at hx
   have:i - fs.length=0:=by
    have:=(L1a.1 hx).1;simp at this;omega
   rw[this] at hx;exact Or.inl ⟨by omega,by simpa using hx.symm⟩
 have xe:∀k,own k=none->f'.sv.ownBlock≠some k->(own.upd f'.sv.ownBlock (.stk fs.length)) k=none:=fun k hn hne=>by
  unfold Own.upd;rw [if_neg hne];exact hn
 refine h.edit (R':={ R with frs:=fs++[f'] }) (Nat.le_of_eq hsize) (fun k t hk'=>?_) (xc _ _ h.me) (fun k hn hks hor=>⟨xe k hn ?_,hk k fun e=>by rw [e,xa] at hn;cases hn⟩) (kc 0) ((kc 1).trans h.c1) ((kc 2).trans h.c2) ((kc 3).trans h.c3) ((kc 4).trans h.c4) ((kc 5).trans h.c5) (kc 6) (fun j=>by rw [L0c (w:=w) (a:=⟨mb,j,none⟩) xd];exact h.fz j)
  (h.out.kept (keep _ R5)) ⟨?_,fun b hb=>?_⟩ (h.things.kept (keep _ R5)) (fun i x hx=>?_) (fun i x hx=>?_) (fun i x hx=>(h.fld i x hx).kept (keep _ R5)) (fun b o e=>xe b (h.dro b o e).2 (hnd b o e)) rfl rfl rfl
 ·unfold Own.upd at hk'
  split at hk'
  ·rename_i e;rw [<- hsize];exact (hst.lt k e).2
  ·rw [<- hsize];exact xg k t hk'
 ·rcases hor with hb | rfl | ⟨o,e⟩
  ·exact fun e=>(hnb k e).2.1 k hb rfl
  ·exact fun e=>(hnb 0 e).2.2 rfl
  ·exact hnd k o e
 ·rw [show ({ R with frs:=fs++[f'] } : RfR).frs.length=R.frs.length from xf]
  show w'.ownsRow 0 86 4 R.cv R.frs.length _;rw[hcv];exact hrow
 ·exact xc b _ (h.called.2 b hb)
 ·rcases xb i x hx with ⟨rfl,rfl⟩ | ⟨hi,hx⟩
  ·rw [hlv,hloc]
   exact (h.loc _ f xh).kept (keep _ R5)
  ·exact (h.loc i x hx).kept (keep _ R5)
 ·rcases xb i x hx with ⟨rfl,rfl⟩ | ⟨hi,hx⟩
  ·refine ⟨A7 hst fun b hb=>hk b fun e=>?_,fun b hb=>by simp [Own.upd,hb]⟩
   have:=(hnb b hb).1;rw[e,xa] at this
   cases this
  ·exact (h.stk i x hx).kept (keep _ R5)
theorem A8.goOn {R:RfR} {f:FrR} {sv:Value} {stk:List Val} {to:Nat} (h:A8 w own mb g R) (hf:R.frs=fs++[f]) (hcv:R.cv=.slice (some ⟨cb,0,none⟩) R.frs.length cc) (hst:w.ownsRow 0 92 2 sv stk.length (A5 stk)) (hnb:M9 own g sv) (hnd:∀b o,R.da=some ⟨b,o,none⟩->sv.ownBlock≠some b) :
  A8 ((w.setCell ⟨cb,fs.length*4+3,none⟩ sv).setCell ⟨cb,fs.length*4+1,none⟩ (.int .i64 (to:Int))) (own.upd sv.ownBlock (.stk fs.length)) mb g { R with frs:=fs++[{ f with pc:=to,sv:=sv,stk:=stk }] } /\
   ∀k,k≠cb->((w.setCell ⟨cb,fs.length*4+3,none⟩ sv).setCell ⟨cb,fs.length*4+1,none⟩ (.int .i64 (to:Int))).heap[k]?=w.heap[k]?:=by
 have hl:=h.called.1;rw[hcv] at hl;have xc:R.frs[fs.length]?=some f:=by rw [hf];simp
 have hr:=(World.ownsRow.stored (World.ownsRow.stored hl (fs.length*4+3) sv).1 (fs.length*4+1) (.int .i64 (to:Int))).1;rw[<- G6 (c:=FrR.cells) FrR.cells_len (l:=R.frs) (i:=fs.length) (j:=3) (x:=f) (y:={ f with sv:=sv,stk:=stk }) (u:=sv) xc R4 rfl,
  <- G6 (c:=FrR.cells) FrR.cells_len (l:=R.frs.set fs.length { f with sv:=sv,stk:=stk }) (i:=fs.length) (j:=1) (x:={ f with sv:=sv,stk:=stk }) (y:={ f with pc:=to,sv:=sv,stk:=stk }) (u:=.int .i64 (to:Int)) (by rw [List.getElem?_set_self (by rw [hf];simp)]) R4 rfl,List.set_set] at hr
 have xb:R.frs.set fs.length { f with pc:=to,sv:=sv,stk:=stk }=fs++[{ f with pc:=to,sv:=sv,stk:=stk }]:=by rw [hf];simp
 rw[xb] at hr;have xa:∀k,k≠cb->((w.setCell ⟨cb,fs.length*4+3,none⟩ sv).setCell ⟨cb,fs.length*4+1,none⟩ (.int .i64 (to:Int))).heap[k]?=w.heap[k]?:=fun k hk=>by
  rw[heap_setCell_other _ _ _ _ hk,heap_setCell_other _ _ _ _ hk]
 exact⟨h.setTop (f':={ f with pc:=to,sv:=sv,stk:=stk }) hf hcv rfl rfl R5 xa hr hst hnb hnd,xa⟩
end
section
variable {R:RfR} {W:World} {f:FrR} {fs:List FrR} {g:PgR} {l:List Val} {mb:Nat} {own:Own}
theorem K8 {P:Program} {w:World} {ops:Array Oper} {o:Oper} {a:Act} {K:Act->World->Prop} {Q:Exit->Act->World->Prop} {E:Prop} (hgd:o.guard=none) (s x:Operand) (t:TypeId)
  (ho:o.op=.call { callee:=.builtin .append,args:=#[s,x],argTypes:=#[t,t] })
  (base:Nat) (e:TypeId) (i:TypeInfo) (z:Value) (size bytes:Nat) (ht:P.underlying t=some (.slice e)) (hi:P.info? e=some i) (hz:i.zero=some z)
  (hsize:i.size=size) (hby:i.bytes=bytes) (hzs:z.cells.size=size) (hsz:0 < size)
  (v:Value) (n:Nat) (xs:List Value) (hs:a.eval s=v) (hown:w.ownsRow base e size v n xs)
  (ad:Option Addr) (m c:Nat) (news:List Value) (hx:a.eval x=.slice ad m c) (hl:news.length=m*size) (hnews:0 < m->∃d,ad=some d/\∀j u,news[j]?=some u->w.cell? (d.add j)=some u) (h1:∀u∈news,u.oneCell'=true)
  (h63:n+m<=maxLen) (hbytes:(n+m)*bytes<=140737488355328) (hbase:base<=w.heap.size)
  (h:∀v' w',w'.ownsRow base e size v' (n+m) (xs++news)->w.grownBy w' v.ownBlock->(∀g,v'.ownBlock=some g->v.ownBlock=some g\/g=w.heap.size)->K (a.put o.dst v') w') :
  if Region.wanted o (yielded ops a.tmps)=true then Oper.wp P o a w K Q else E:=by
 have hw:Region.wanted o (yielded ops a.tmps)=true:=by simp [Region.wanted,hgd]
 rw[if_pos hw];exact fR w s x t ho base e i z size bytes ht hi hz hsize hby hzs hsz v n xs hs hown ad m c news hx hl hnews h1 h63 hbytes hbase h
theorem O2.take {B:Nat} {a:Option Addr} (h:O2 W B a l) (k:Nat):O2 W B a (l.take k):=fun h0=>by
 rw[List.length_take] at h0;obtain⟨b,e,hb,hc⟩:=h R4;refine⟨b,e,hb,fun i x hx=>hc i x ?_⟩;rw[List.getElem?_take] at hx;split at hx
 ·exact hx
 ·cases hx
theorem A8.front (h:A8 W own mb g R) (hf:R.frs=fs++[f]) (hfn:f.fn < g.n) (hpc:f.pc < (g.f f.fn).n) :
  ∃cb cc,R.cv=.slice (some ⟨cb,0,none⟩) (fs.length+1) cc/\W.cell? ⟨mb,4,none⟩=some (.slice (some ⟨cb,0,none⟩) (fs.length+1) cc)/\cb < W.heap.size/\own cb=some .called/\(∀j,W.frozen? ⟨cb,j,none⟩=false) /\
   W.cell? ⟨cb,fs.length*4,none⟩=some (.int .i64 (f.fn:Int))/\W.cell? ⟨cb,fs.length*4+1,none⟩=some (.int .i64 (f.pc:Int))/\W.cell? ⟨cb,fs.length*4+2,none⟩=some f.lv/\W.cell? ⟨cb,fs.length*4+3,none⟩=some f.sv /\
   W.cell? ⟨mb,0,none⟩=some (.slice (some ⟨g.b,g.o,none⟩) g.n g.c)/\g.b < W.heap.size/\W.cell? ⟨g.b,g.o+f.fn*3+2,none⟩=some (.slice (some ⟨(g.f f.fn).b,(g.f f.fn).o,none⟩) (g.f f.fn).n (g.f f.fn).c)/\(g.f f.fn).b < W.heap.size /\
   W.cell? ⟨(g.f f.fn).b,(g.f f.fn).o+f.pc*2,none⟩=some (.int .i64 ((g.f f.fn).op f.pc))/\W.cell? ⟨(g.f f.fn).b,(g.f f.fn).o+f.pc*2+1,none⟩=some (.int .i64 ((g.f f.fn).ar f.pc)):=by
 obtain⟨a,cp,hv,_,hc⟩:=Row.cells FrR.cells_len h.called;have hl:R.frs.length=fs.length+1:=by rw [hf];simp
 have xb:R.frs[fs.length]?=some f:=by rw [hf];simp
 obtain⟨cb,rfl,xd,xc,hz,xa⟩:=hc R4;obtain⟨g1,g2,g3⟩:=h.pg.2.1 R4;obtain⟨q1,q2,q3⟩:=(h.pg.2.2 f.fn hfn).2 R4;have m0:=h.c0;rw[g1] at m0;have x2:=(g3 f.fn hfn).2.2;rw[q1] at x2;have m4:=h.c4;rw[hv,hl] at m4;exact⟨cb,cp,by rw [hv,hl],m4,xd,xc,hz,xa fs.length 0 f _ xb R3 rfl,xa fs.length 1 f _ xb R3 rfl,xa fs.length 2 f _ xb R3 rfl,xa fs.length 3 f _ xb R3 rfl,m0,g2,x2,q2,(q3 f.pc hpc).1,(q3 f.pc hpc).2⟩
theorem a3F {w1 w3:World} {own1:Own} {R1:RfR} {f:FrR} {push:List Val} {cb cc k drop to:Nat} {va:Option Addr} {vc:Nat} (h1:A8 w1 own1 mb g R1) (hfr:R1.frs=fs++[{ f with loc:=l }]) (hcv:R1.cv=.slice (some ⟨cb,0,none⟩) (fs.length+1) cc) (hB3:Below w1.heap.size w1 w3) (hk:f.stk.length=k+drop)
  (hown:w3.ownsRow w1.heap.size 92 2 (.slice va (k+push.length) vc) (k+push.length) (A5 (f.stk.take k)++A5 push)) (hT:A2 own W own1 w1) :
  ∃own2,A8 ((w3.setCell ⟨cb,fs.length*4+3,none⟩ (.slice va (k+push.length) vc)).setCell ⟨cb,fs.length*4+1,none⟩ (.int .i64 (to:Int))) own2 mb g { R1 with frs:=fs++[{ f with loc:=l,pc:=to,sv:=.slice va (k+push.length) vc,stk:=f.stk.take (f.stk.length - drop)++push }] } /\
   A2 own W own2 ((w3.setCell ⟨cb,fs.length*4+3,none⟩ (.slice va (k+push.length) vc)).setCell ⟨cb,fs.length*4+1,none⟩ (.int .i64 (to:Int))):=by
 have xd:R1.frs.length=fs.length+1:=by rw [hfr];simp
 have xf:f.stk.length - drop=k:=by omega
 have xe:(f.stk.take k++push).length=k+push.length:=by rw [List.length_append,List.length_take];omega
 have xa:∀b,(Value.slice va (k+push.length) vc).ownBlock=some b->w1.heap.size<=b:=fun b hb=>(hown.lt b hb).1
 have xg:M9 own1 g (.slice va (k+push.length) vc):=fun b hb=>by
  have:=xa b hb;refine⟨?_,fun q hq e=>?_,fun e=>?_⟩
  ·cases e:own1 b with
   | none=>rfl
   | some t=>have:=h1.lt b t e;omega
  ·have:=h1.pg.blk_lt hq;omega
  ·have:=h1.lt _ _ h1.me;omega
 have xc:own1 cb=some .called:=h1.called.2 cb (by rw [hcv];rfl);obtain⟨hF,xb⟩:=(h1.same hB3).goOn (f:={ f with loc:=l }) (cc:=cc) (sv:=.slice va (k+push.length) vc) (stk:=f.stk.take k++push) (to:=to) hfr (by rw [hcv,xd]) (by rw [xe,G9];exact fA hown (Nat.zero_le _)) xg (fun b o e hb=>by
  have:=(h1.dro b o e).1;have:=xa b hb;omega)
 refine⟨own1.upd (Value.slice va (k+push.length) vc).ownBlock (.stk fs.length),by rw [xf];exact hF,hT.trans ⟨hB3.os,hB3.tape,hB3.output,by simpa using hB3.size,fun q hq hn=>?_,fun q hq=>?_⟩⟩
 ·rw [xb q (fun e=>by rw [e,xc] at hn;cases hn)]
  exact hB3.block q hq
 ·unfold Own.upd
  rw[if_neg (fun e=>by have:=xa q e;omega)]
theorem a5o {f:FrR} (h:A8 W own mb g R) (hf:R.frs=fs++[f]) (hfn:f.fn < g.n) (hpc:f.pc < (g.f f.fn).n) (hgn:g.n<=1000) (hcn:(g.f f.fn).n<=1000) (hfs:fs.length<=1000) (hstn:f.stk.length<=1000)
  (h14:(g.f f.fn).op f.pc≠14) (h15:(g.f f.fn).op f.pc≠15) (h27:(g.f f.fn).op f.pc≠27) {P:RfR->Prop} {drop to:Nat} {push:List Val} (hdr:drop<=f.stk.length) (hpu:push.length<=1000)
  (hP:∀R',P R'->(∃l,R'.frs=fs++[{ f with loc:=l }])/\R'.cv=R.cv/\∀b o,R'.da=some ⟨b,o,none⟩->b < W.heap.size)
  (hdo:∀U,Below W.heap.size W U->Calls prog 139 #[.pointer (some ⟨mb,0,none⟩),.agg #[.int .i64 ((g.f f.fn).op f.pc),.int .i64 ((g.f f.fn).ar f.pc)],.agg #[.int .i64 (f.fn:Int),.int .i64 (f.pc:Int),f.lv,f.sv]] U fun e w'=>J3 own mb g P (drop:Int) push (to:Int) 0 U e w') :
  Calls prog 100 #[.pointer (some ⟨mb,0,none⟩)] W fun e w'=>e=.returned (.tuple #[])/\∃own' R' sv l,P R'/\R'.frs=fs++[{ f with loc:=l }]/\A8 w' own' mb g { R' with frs:=fs++[{ f with loc:=l,pc:=to,sv:=sv,stk:=f.stk.take (f.stk.length - drop)++push }] }/\A2 own W own' w':=by
 obtain⟨xn,hi,hz,yv,yt⟩:=info_parts I5;have HI:=hid hi;have HZ:=hid hz;have yr:=hid yv;have yo:=hid yt;have zy:=h.lt _ _ h.me;obtain⟨cb,cc,yw,m4,zp,xz,zd,k0,k1,k2,k3,m0,zh,x2,zx,y0,y1⟩:=h.front hf hfn hpc;obtain⟨sa,sc,yg,zn,zj⟩:=(h.stk fs.length f (by rw [hf];simp)).vals;obtain⟨la,lc,yq,_,_⟩:=(h.loc fs.length f (by rw [hf];simp)).vals;have xw:Hid (∀k,W.heap.size<=k->own k=none):=hid fun k hk=>by
  cases e:own k with
  | none=>rfl
  | some t=>have:=h.lt k t e;omega
 have HH:=hid h;have xr:=hid hdo;have HP:=hid hP;have yu:=hid yw;have HF:=hid hf;have ym:=hid yg;rw[yq] at k2 xr;rw[yg] at k3 xr;generalize hop:(g.f f.fn).op f.pc=op at *
 generalize har:(g.f f.fn).ar f.pc=ar at *
 have zk:(op == 14)=false:=L2c.2 h14;have zc:(op == 15)=false:=L2c.2 h15;have zf:(op == 27)=false:=L2c.2 h27;have za:(f.fn:Int) < (g.n:Int):=(fun (_:g.n<=1000) (_:(g.f f.fn).n<=1000) (_:fs.length<=1000) (_:f.stk.length<=1000) (_:push.length<=1000) (_:drop<=f.stk.length)=>by omega) hgn hcn hfs hstn hpu hdr;have zu:(f.pc:Int) < ((g.f f.fn).n:Int):=by omega
 have xu:mb < W.heap.size+1:=by omega
 have xx:g.b < W.heap.size+1:=by omega
 have yc:(g.f f.fn).b < W.heap.size+1:=by omega
 obtain⟨k,yz⟩:∃k,f.stk.length=k+drop:=⟨f.stk.length - drop,by omega⟩
 have xt:=hid yz;rw[yz] at k3 xr ym zn;have zi:k<=sc:=by omega
 have yx:(k:Int)<=(sc:Int):=by omega
 clear hi hz yv yt h hdo hP yw hf yg yq zj zd hop har;go_enter func100,ntmps100;go_wp2_with fail;go_region
 go_wp2_with fail;refine (xr.out _ P4).mono ?_;rintro e w1 ⟨xy,R1,pa,yb,rfl,xi,ye,xs,yy,ys⟩;have yk:=xs.block W.heap.size Q8 (xw.out _ (L1c _));have b3:w1.cell? ⟨W.heap.size,3,none⟩=some (.slice sa (k+drop) sc):=(L0b (a:=⟨W.heap.size,3,none⟩) yk).trans Q9
 obtain⟨⟨l1,xf⟩,hcv1,hda1⟩:=HP.out R1 ye;obtain⟨xl,cc1,e1,n4,xa,yl,xh,j0,j1,j2,j3,_,_,_,_,_,_⟩:=xi.front xf hfn hpc;have e2:Value.slice (some ⟨cb,0,none⟩) (fs.length+1) cc=.slice (some ⟨xl,0,none⟩) (fs.length+1) cc1:=by rw [<- yu.out,<- hcv1];exact e1
 have e3:xl=cb:=by injection e2 with q _ _;injection q with q;injection q with q;exact q.symm
 have e4:cc1=cc:=by injection e2 with _ _ q;exact q.symm
 subst e3;subst e4;have yh:=(xi.stk fs.length { f with loc:=l1 } (by rw [xf];simp)).vals;obtain⟨xq,sc1,e5,_,yp⟩:=yh;have e6:xq=sa:=by
  have e7:Value.slice sa (k+drop) sc=.slice xq f.stk.length sc1:=by rw [<- ym.out];exact e5
  injection e7 with q _ _
  exact q.symm
 subst e6;have yf:Hid (∀X,Below w1.heap.size w1 X->(0 < k->∃d,xq=some d/\∀j u,(A5 (f.stk.take k))[j]?=some u->X.cell? (d.add j)=some u)):=hid fun X hX h0=>by
  have:=((yp.take k).later hX).src (by rw [List.length_take,xt.out];omega);exact this
 have zr:=hid xi;have zb:=hid ye;have zv:Hid (A2 own W xy w1):=hid ((A2.of_below P4).trans xs);have zg:Hid (w1.ownsRow W.heap.size 92 2 (.slice pa push.length yb) push.length (A5 push)):=hid (fA yy Q2)
 have zz:=hid ys;have yd:=hid hcv1;have zq:=hid hda1;have xo:=hid xf;have xe:=xi.lt _ _ xi.me;have qf:W.heap.size < w1.heap.size:=L0a Q8 xs.size;have yj:=xh (fs.length*4+3);have yi:=xh (fs.length*4+1);have yn:xl < w1.heap.size+1:=by omega
 have ze:mb < w1.heap.size+1:=by omega
 have qc:W.heap.size < w1.heap.size+1:=by omega
 have xg:(A5 (f.stk.take k)).length=k*2:=by rw [D3,List.length_take,xt.out,Nat.min_eq_left R4]
 have zl:=hid xg;clear xi ye xs yy ys yk hcv1 hda1 xf yp e1 e2 e5 xh xg m4 zp xz k0 k1 k2 k3 m0 zh x2 zx y0 y1 zy xu xx yc;go_wp2_with (at_builtin;go_must (refine B0 _ rfl (.tmp 72) (.tmp 81) 84 rfl w1.heap.size 92 xn _ 2 16 underlying84 HI.out HZ.out yr.out yo.out rfl R3 _ 0 [] rfl (World.ownsRow_nil _ _ _ _) xq k sc (A5 (f.stk.take k)) rfl zl.out (yf.out _ P4) (X1 _) Q5 R4 R5 ?_))
 intro v2 w2 hown2 hgrow2 hat2;have xc:Below w1.heap.size w1 w2:=Below.grown (Below.alloc (Below.refl _ _) (L1c _) _) hgrow2 R5 (fun q e=>by cases e);have xv:=hgrow2.block w1.heap.size R5 (fun e=>by cases e);have s1:w2.cell? ⟨w1.heap.size,1,none⟩=some (.slice pa push.length yb):=(L0b (a:=⟨w1.heap.size,1,none⟩) xv).trans Q9;have s2:w2.cell? ⟨w1.heap.size,2,none⟩=some (.int .i64 (to:Int)):=(L0b (a:=⟨w1.heap.size,2,none⟩) xv).trans Q9
 have xp:w1.heap.size < w2.heap.size:=L0a R5 hgrow2.size;have xj:∀q,v2.ownBlock=some q->q=w1.heap.size+1:=fun q e=>by
  rcases hat2 q e with e | e
  ·cases e
  ·exact e
 have o4:=keep xc xe n4;have o1:=keep xc xa j1;have o3:=keep xc xa j3;have qa:=C2 xc xa yi;have qd:=C2 xc xa yj;have om:mb < w2.heap.size:=L0a xe xc.size;have oc:xl < w2.heap.size:=L0a xa xc.size;have zm:=hid xc;have xb:=hid hown2;have xk:Hid (∀X,Below w2.heap.size w2 X->(0 < push.length->∃d,pa=some d/\∀j u,(A5 push)[j]?=some u->X.cell? (d.add j)=some u)):=hid fun X hX=>by
  obtain⟨zs,qb,e,_,hv⟩:=S8 zg.out;have e':zs=pa:=by injection e with q _ _;exact q.symm
  subst e';exact ((hv.later xc).later (hX.mono xc.size)).src
 have qe:(fs.length:Int) < (fs.length:Int)+1:=by omega
 have zt:(0:Int)<=(fs.length:Int):=by omega
 clear xc xv hown2 hgrow2 hat2 b3;go_wp2_with fail;go_region_law ((refine K8 rfl (.tmp 88) (.tmp 90) 84 rfl w1.heap.size 92 xn _ 2 16 underlying84 HI.out HZ.out yr.out yo.out rfl R3 v2 k (A5 (f.stk.take k)) Q3 (by repeat (first | exact xb.out | exact xb.out.drew | refine World.ownsRow.drew ?_)) pa push.length yb (A5 push) Q3 (D3 _) (xk.out _ (by repeat (first | exact Below.refl _ _ | refine Below.drew ?_))) (X1 _) Q5 R4 Q4 ?_;intro v3 w3 hown3 hgrow3 hat3;obtain ⟨va,vc,zw,_⟩:=B4 hown3;subst zw;have xd:=gZ (Below.drew zm.out) (L1c _) xb.out.drew hgrow3;have p4:=keep xd xe n4;have r1:=keep xd xa j1;have r3:=keep xd xa j3;have y1:=C2 xd xa yi;have y3:=C2 xd xa yj;have s3:w3.cell? ⟨w1.heap.size,2,none⟩=some (.int .i64 (to:Int)):=(L0b (a:=⟨w1.heap.size,2,none⟩) (hgrow3.block w1.heap.size (by simpa using xp) (fun e=>by have:=(xj _ e.symm);omega))).trans (by first | exact s2 | (show w2.cell? _=_;exact s2));have u1:mb < w3.heap.size:=L0a xe xd.size;have u2:xl < w3.heap.size:=L0a xa xd.size;have u3:w1.heap.size < w3.heap.size:=L0a (by simpa using xp) hgrow3.size;have zo:=hid xd;have xm:=hid hown3;clear xd hown3 hgrow3 hat3))
 all_goals go_wp2_with fail
 all_goals go_region
 all_goals go_wp2_with fail
 all_goals
  obtain⟨ya,hF,hT⟩:=a3F (to:=to) (drop:=drop) zr.out xo.out (yd.out.trans yu.out) zo.out xt.out xm.out zv.out;go_end0
  exact⟨rfl,ya,R1,_,l1,zb.out,xo.out,hF.same (by repeat (first | refine Below.drew ?_ | exact Below.refl _ _)),hT.trans (A2.of_below (by repeat (first | refine Below.drew ?_ | exact Below.refl _ _)))⟩
end
section
variable {W:World} {f:FrR} {fs:List FrR} {g:PgR} {mb:Nat} {own:Own}
theorem a1F {R:RfR} (h:A8 W own mb g R) (hf:R.frs=fs++[f]) (hfn:f.fn < g.n) (hpc:f.pc < (g.f f.fn).n) (hgn:g.n<=1000) (hcn:(g.f f.fn).n<=1000) (hfs:fs.length<=1000) (hstn:f.stk.length<=1000)
  (h14:(g.f f.fn).op f.pc≠14) (h15:(g.f f.fn).op f.pc≠15) (h27:(g.f f.fn).op f.pc≠27) {trap:Int} (ht0:trap≠0)
  (hdo:∀U,Below W.heap.size W U->Calls prog 139 #[.pointer (some ⟨mb,0,none⟩),.agg #[.int .i64 ((g.f f.fn).op f.pc),.int .i64 ((g.f f.fn).ar f.pc)],.agg #[.int .i64 (f.fn:Int),.int .i64 (f.pc:Int),f.lv,f.sv]] U fun e w'=>J3 own mb g (fun R'=>R'=R) 0 [] 0 trap U e w') :
  Calls prog 100 #[.pointer (some ⟨mb,0,none⟩)] W fun e w'=>e=.returned (.tuple #[])/\∃own',A8 w' own' mb g { R with st:=trap }/\A2 own W own' w':=by
 have yb:=h.lt _ _ h.me;obtain⟨cb,cc,xt,m4,xn,xg,ya,k0,k1,k2,k3,m0,xp,x2,xy,y0,y1⟩:=h.front hf hfn hpc;obtain⟨sa,sc,xj,yd,xs⟩:=(h.stk fs.length f (by rw [hf];simp)).vals;obtain⟨la,lc,xi,_,_⟩:=(h.loc fs.length f (by rw [hf];simp)).vals;have xv:Hid (∀k,W.heap.size<=k->own k=none):=hid fun k hk=>by
  cases e:own k with
  | none=>rfl
  | some t=>have:=h.lt k t e;omega
 have HH:=hid h;have xc:=hid hdo;rw[xi] at k2 xc;rw[xj] at k3 xc;generalize hop:(g.f f.fn).op f.pc=op at *
 generalize har:(g.f f.fn).ar f.pc=ar at *
 have xu:(op == 14)=false:=L2c.2 h14;have xz:(op == 15)=false:=L2c.2 h15;have xk:(op == 27)=false:=L2c.2 h27;have yf:(trap == 0)=false:=L2c.2 ht0;have xm:(f.fn:Int) < (g.n:Int):=(fun (_:g.n<=1000) (_:(g.f f.fn).n<=1000) (_:fs.length<=1000) (_:f.stk.length<=1000)=>by omega) hgn hcn hfs hstn;have xx:(f.pc:Int) < ((g.f f.fn).n:Int):=by omega
 have xd:mb < W.heap.size+1:=by omega
 have xf:g.b < W.heap.size+1:=by omega
 have xe:(g.f f.fn).b < W.heap.size+1:=by omega
 clear h hdo xt hf xj xi xs ya hop har yd;go_enter func100,ntmps100;go_wp2_with fail;go_region
 go_wp2_with fail;refine (xc.out _ P4).mono ?_;rintro e w1 ⟨xb,R1,pa,ye,rfl,xa,rfl,xh,xw,xq⟩;have xl:Hid (A2 own W xb w1):=hid ((A2.of_below P4).trans xh)
 have xr:=xa.lt _ _ xa.me;have n2:=xa.c2;have z2:=xa.fz 2;have yc:mb < w1.heap.size+1:=by omega
 have xo:=hid xa;clear xa xh xw xq m4 xn xg k0 k1 k2 k3 m0 xp x2 xy y0 y1 yb xd xf xe;go_wp2_with fail;obtain⟨hF,hT⟩:=xo.out.setSt trap;refine bodyPost_ret (v:=.tuple #[]) (by simp [results,results100,go_sem]) rfl ?_;exact⟨rfl,xb,hF.same (Below.alloc (Below.refl _ _) (L1c _) _),xl.out.trans (hT.trans (A2.of_below (Below.alloc (Below.refl _ _) (L1c _) _)))⟩
theorem A8.noFrames {w:World} {R:RfR} (h:A8 w own mb g R):A8 (w.setCell ⟨mb,4,none⟩ (.slice none 0 0)) own mb g { R with cv:=.slice none 0 0,frs:=[] }/\A2 own w own (w.setCell ⟨mb,4,none⟩ (.slice none 0 0)):=by
 obtain⟨k1,k2⟩:=h.mach 4 (.slice none 0 0);have hs:(w.setCell ⟨mb,4,none⟩ (.slice none 0 0)).heap.size=w.heap.size:=by simp
 have keep:∀t,t≠.mach->∀k,own k=some t->(w.setCell ⟨mb,4,none⟩ (.slice none 0 0)).heap[k]?=w.heap[k]?/\own k=some t:=fun t ht k e=>⟨k1 t k e ht,e⟩
 refine⟨h.edit (R':={ R with cv:=.slice none 0 0,frs:=[] }) (by rw [hs];exact L1c _) (fun k t e=>by rw [hs];exact h.lt k t e) h.me (fun k hn _ _=>⟨hn,k2 k hn⟩) (B8 _ R3) ((B8 _ R3).trans h.c1) ((B8 _ R3).trans h.c2) ((B8 _ R3).trans h.c3) (World.cell?_setCell_same _ _ _ h.c4) ((B8 _ R3).trans h.c5) (B8 _ R3) (fun j=>by go_simp;exact h.fz j)
  (h.out.kept (keep _ R5)) ⟨World.ownsRow_nil _ _ _ _,fun b hb=>by cases hb⟩ (h.things.kept (keep _ R5)) (fun i x hx=>by simp at hx) (fun i x hx=>by simp at hx) (fun i x hx=>(h.fld i x hx).kept (keep _ R5)) (fun b o e=>(h.dro b o e).2) rfl rfl rfl,⟨rfl,rfl,rfl,by simp,fun k _ hn=>k2 k hn,fun _ _=>rfl⟩⟩
theorem a1D {R:RfR} (h:A8 W own mb g R) (hf:R.frs=fs++[f]) (hfn:f.fn < g.n) (hpc:f.pc < (g.f f.fn).n) (hgn:g.n<=1000) (hcn:(g.f f.fn).n<=1000) (hfs:fs.length<=1000) (hstn:f.stk.length<=1000) (h27:(g.f f.fn).op f.pc=27) :
  Calls prog 100 #[.pointer (some ⟨mb,0,none⟩)] W fun e w'=>e=.returned (.tuple #[])/\A8 w' own mb g { R with st:=1,cv:=.slice none 0 0,frs:=[] }/\A2 own W own w':=by
 have xr:=h.lt _ _ h.me;obtain⟨cb,cc,xg,m4,xo,xn,xk,k0,k1,k2,k3,m0,xp,x2,xq,y0,y1⟩:=h.front hf hfn hpc;obtain⟨sa,sc,xb,xl,xf⟩:=(h.stk fs.length f (by rw [hf];simp)).vals;obtain⟨la,lc,xa,_,_⟩:=(h.loc fs.length f (by rw [hf];simp)).vals;have xi:Hid (∀k,W.heap.size<=k->own k=none):=hid fun k hk=>by
  cases e:own k with
  | none=>rfl
  | some t=>have:=h.lt k t e;omega
 have HH:=hid h;rw[xa] at k2;rw[xb] at k3;rw[h27] at y0;generalize har:(g.f f.fn).ar f.pc=ar at *
 have xc:(f.fn:Int) < (g.n:Int):=(fun (_:g.n<=1000) (_:(g.f f.fn).n<=1000) (_:fs.length<=1000) (_:f.stk.length<=1000)=>by omega) hgn hcn hfs hstn;have xj:(f.pc:Int) < ((g.f f.fn).n:Int):=by omega
 have xd:mb < W.heap.size+1:=by omega
 have xm:g.b < W.heap.size+1:=by omega
 have xh:(g.f f.fn).b < W.heap.size+1:=by omega
 have n2:=h.c2;have z2:=h.fz 2;have z4:=h.fz 4;have xe:mb < W.heap.size+1+1:=by omega
 clear h xg hf xb xa xf xk har xl;go_enter func100,ntmps100;go_wp2_with fail;go_region
 go_wp2_with fail;obtain⟨hF,hT⟩:=HH.out.setSt 1;obtain⟨hG,hU⟩:=hF.noFrames;refine bodyPost_ret (v:=.tuple #[]) (by simp [results,results100,go_sem]) rfl ?_;exact⟨rfl,hG.same P4,hT.trans (hU.trans (A2.of_below P4))⟩
end
section
variable {sl:List Int}
def J1 (sl:List Int) (v:Val):Val:=if v.1=2 then (2,sl.getD v.2.toNat (-1)) else v
theorem a1w {l:List Val} {i:Nat} {x:Val} (h:l[i]?=some x):(l.take (i+1)).map (J1 sl)=(l.take i).map (J1 sl)++[J1 sl x]:=by
 rw[List.take_add_one,h,List.map_append];rfl
theorem jS {W:World} {mb:Nat} (hsl:cW W mb sl) {a:Option Addr} {c:Nat} {l:List Val} (hs:O2 W W.heap.size a l) (hr:∀u,u∈l->u.1=2->0<=u.2/\u.2.toNat < sl.length) (hl:l.length<=1000) (hn:sl.length<=100000000000) :
  Calls prog 49 #[.pointer (some ⟨mb,0,none⟩),.slice a l.length c] W fun e w'=>∃v,e=.returned v/\w'.ownsRow W.heap.size 92 2 v l.length (A5 (l.map (J1 sl)))/\Below W.heap.size W w':=by
 obtain⟨xe,hi,hz,xs,xv⟩:=info_parts I5;have HI:=hid hi;have HZ:=hid hz;have xt:=hid xs;have xl:=hid xv;obtain⟨xu,ta,yb,n5,hx⟩:=hsl;have M5:=hid n5;have HX:=hid hx;have HS:=hid hs;have HR:=hid hr;clear hi hz xs xv n5 hx hs hr;go_enter func49,ntmps49;go_wp2_with fail;go_loopw [5,6] (fun vl vi wr=>∃i:Nat,i<=l.length/\vi=.int .i64 i/\wr.ownsRow W.heap.size 92 2 vl i (A5 ((l.take i).map (J1 sl)))/\Below W.heap.size W wr) (fun _ vi _=>l.length - (intOf vi).toNat)
 case atStart=>exact ⟨0,Nat.zero_le _,rfl,World.ownsRow_nil _ _ _ _,Below.refl _ _⟩
 case round =>
  obtain⟨i,hi,rfl,xc,xa⟩:=hrel;have xb:=hid xc;have xd:=hid xa;have xw:W.heap.size<=wr.heap.size:=xa.size;by_cases hlt:i < l.length
  ·obtain ⟨x,hx⟩:∃x,l[i]?=some x:=⟨_,L1b hlt⟩
   obtain⟨b,rfl,hb,xi⟩:=HS.out R4;obtain⟨x0,x1⟩:=xi i x hx;have xp:=keep xa hb x0;have xm:=keep xa hb x1;have m5:=keep xa xu M5.out;have yf:b < wr.heap.size:=L0a hb xa.size;have ya:mb < wr.heap.size:=L0a xu xa.size;have xy:mb < wr.heap.size+1:=by omega
   have xr:=hid (a1w (sl:=sl) hx);have xj:(i:Int) < (l.length:Int):=by omega
   by_cases h2:x.1=2
   ·obtain ⟨j0,jl⟩:=HR.out x (L2a hx) h2
    obtain⟨j,hj⟩:=Int.eq_ofNat_of_zero_le j0;have xo:x.2.toNat=j:=by rw [hj];rfl
    rw[xo] at jl;obtain⟨s,hs⟩:∃s,sl[j]?=some s:=⟨_,L1b jl⟩
    obtain⟨tb,rfl,xq,xf⟩:=HX.out R4;have t2:=keep xa xq (xf j s hs);have ye:tb < wr.heap.size:=L0a xq xa.size;have xz:tb < wr.heap.size+1:=by omega
    have yc:(j:Int) < (sl.length:Int):=by omega
    have HV:Hid (J1 sl x=(2,s)):=hid (by
     unfold J1;rw[if_pos h2,xo,List.getD_eq_getElem?_getD,hs];rfl)
    rw[h2] at xp;rw[hj] at xm;clear xc xa xi hx hs xf x0 x1;go_wp2_with fail;go_region
    go_wp2_with (at_builtin;go_must (refine B0 _ rfl (.tmp 31) (.tmp 33) 84 rfl W.heap.size 92 xe _ 2 16 underlying84 HI.out HZ.out xt.out xl.out rfl R3 _ i (A5 ((l.take i).map (J1 sl))) rfl (by repeat (first | exact xb.out | refine World.ownsRow.alloc ?_ _ | refine World.ownsRow.drew ?_)) (some ⟨wr.heap.size+1,0,none⟩) 1 1 [.int .u8 2,.int .i64 s] rfl rfl (fun _=>⟨_,rfl,World.news_of_block (cs:=#[.int .u8 2,.int .i64 s]) (t:=92) (fr:=(0,0)) (B1 R5)⟩) (by simp [Value.oneCell']) Q5 R4 Q2 ?_))
    intro v1 w1 hown1 hgrow1 _;have xh:=hid (V7 (Below.drew (Below.alloc (Below.alloc xd.out xw _) Q2 _)) (((xb.out.alloc _).alloc _).drew) hgrow1);have xg:Hid (w1.ownsRow W.heap.size 92 2 v1 (i+1) (A5 ((l.take (i+1)).map (J1 sl)))):=hid (by
     rw[xr.out,HV.out,G9,List.map_take];exact hown1)
    clear hown1 hgrow1;go_wp2_with fail;go_roundw
    case rel=>exact ⟨i+1,by omega,by go_num,xg.out,xh.out⟩
    case measure=>simp [intOf];omega
   ·have HV:Hid (J1 sl x=x):=hid (by unfold J1;rw [if_neg h2])
    obtain⟨xk,xn⟩:=x;have xx:¬xk=2:=h2;have yd:(xk == 2)=false:=L2c.2 xx;simp only at xp xm;clear xc xa xi hx x0 x1 h2;go_wp2_with (at_builtin;go_must (refine B0 _ rfl (.tmp 31) (.tmp 33) 84 rfl W.heap.size 92 xe _ 2 16 underlying84 HI.out HZ.out xt.out xl.out rfl R3 _ i (A5 ((l.take i).map (J1 sl))) rfl (by repeat (first | exact xb.out | refine World.ownsRow.alloc ?_ _ | refine World.ownsRow.drew ?_)) (some ⟨wr.heap.size+1,0,none⟩) 1 1 [.int .u8 xk,.int .i64 xn] rfl rfl (fun _=>⟨_,rfl,World.news_of_block (cs:=#[.int .u8 xk,.int .i64 xn]) (t:=92) (fr:=(0,0)) (B1 R5)⟩) (by simp [Value.oneCell']) Q5 R4 Q2 ?_))
    intro v1 w1 hown1 hgrow1 _;have xh:=hid (V7 (Below.alloc (Below.alloc xd.out xw _) Q2 _) ((xb.out.alloc _).alloc _) hgrow1);have xg:Hid (w1.ownsRow W.heap.size 92 2 v1 (i+1) (A5 ((l.take (i+1)).map (J1 sl)))):=hid (by
     rw[xr.out,HV.out,G9,List.map_take];exact hown1)
    clear hown1 hgrow1;go_wp2_with fail;go_roundw
    case rel=>exact ⟨i+1,by omega,by go_num,xg.out,xh.out⟩
    case measure=>simp [intOf];omega
  ·obtain rfl:i=l.length:=by omega
   rw[List.take_length] at xb;have xj:¬(l.length:Int) < (l.length:Int):=by omega
   clear xc xa;go_wp2_with fail;go_ret;exact⟨_,rfl,xb.out,xd.out⟩
end
section
variable {g:PgR} {mb:Nat} {own:Own} {p:FrR} {w w':World}
theorem A8.addFrame {R:RfR} {hv:Value} (h:A8 w own mb g R) (hsize:w.heap.size<=w'.heap.size)
  (hk:∀k,k < w.heap.size->k≠mb->own k≠some .called->w'.heap[k]?=w.heap[k]?)
  (hc:∀j,j≠4->w'.cell? ⟨mb,j,none⟩=w.cell? ⟨mb,j,none⟩) (hc4:w'.cell? ⟨mb,4,none⟩=some hv) (hfz:∀j,w'.frozen? ⟨mb,j,none⟩=false)
  (hrow:w'.ownsRow 0 86 4 hv (R.frs.length+1) ((R.frs++[p]).flatMap FrR.cells)) (hon:F4 w own hv .called)
  (hfld:w.ownsRow 0 92 2 p.lv p.loc.length (A5 p.loc)) (hnb:M9 own g p.lv) (hnd:∀b o,R.da=some ⟨b,o,none⟩->p.lv.ownBlock≠some b) (hs:p.sv=.slice none 0 0/\p.stk=[]) :
  A8 w' ((own.upd p.lv.ownBlock (.loc R.frs.length)).upd hv.ownBlock .called) mb g { R with cv:=hv,frs:=R.frs++[p] }/\∀k,k < w.heap.size->p.lv.ownBlock≠some k->((own.upd p.lv.ownBlock (.loc R.frs.length)).upd hv.ownBlock .called) k=own k:=by
 have xc:=h.lt;have xb:∀k t,own k=some t->((own.upd p.lv.ownBlock (.loc R.frs.length)).upd hv.ownBlock .called) k=some t:=fun k t hkt=>by
  unfold Own.upd;by_cases e1:hv.ownBlock=some k
  ·rw [if_pos e1]
   rcases hon k e1 with e | e
   ·rw [e] at hkt;exact hkt
   ·have:=xc k t hkt;omega
  ·rw [if_neg e1,if_neg (fun e=>by have:=(hnb k e).1;rw [hkt] at this;cases this)]
   exact hkt
 have xd:∀k,own k=none->k < w.heap.size->p.lv.ownBlock≠some k->((own.upd p.lv.ownBlock (.loc R.frs.length)).upd hv.ownBlock .called) k=none:=fun k hkn hks hkp=>by
  unfold Own.upd;rw[if_neg (fun e=>by
   rcases hon k e with e | e
   ·rw [hkn] at e;cases e
   ·omega),if_neg hkp]
  exact hkn
 have keep:∀t,t≠.mach->t≠.called->∀k,own k=some t->w'.heap[k]?=w.heap[k]?/\((own.upd p.lv.ownBlock (.loc R.frs.length)).upd hv.ownBlock .called) k=some t:=fun t h1 h2 k hk' =>
  ⟨hk k (xc k t hk') (fun e=>by rw [e,h.me] at hk';exact h1 (Option.some.inj hk').symm) (by rw [hk'];exact fun e=>h2 (Option.some.inj e)),xb k t hk'⟩
 have xe:∀k,k < w.heap.size->own k=none->w'.heap[k]?=w.heap[k]?:=fun k hk1 hk2=>hk k hk1 (fun e=>by rw [e,h.me] at hk2;cases hk2) (by rw [hk2];simp)
 refine⟨h.edit (R':={ R with cv:=hv,frs:=R.frs++[p] }) hsize (fun k t hk'=>?_) (xb _ _ h.me) (fun k hn hks hor=>⟨xd k hn hks ?_,xe k hks hn⟩) (hc 0 R3) ((hc 1 R3).trans h.c1) ((hc 2 R3).trans h.c2) ((hc 3 R3).trans h.c3) hc4 ((hc 5 R3).trans h.c5) (hc 6 R3) hfz
  (h.out.kept (keep _ R5 R5)) ⟨by rw [show ({ R with cv:=hv,frs:=R.frs++[p] } : RfR).frs.length=R.frs.length+1 by simp];exact hrow,fun b hb=>by unfold Own.upd;rw [if_pos hb]⟩ (h.things.kept (keep _ R5 R5)) (fun i x hx=>?_) (fun i x hx=>?_) (fun i x hx=>(h.fld i x hx).kept (keep _ R5 R5)) (fun b o e=>xd b (h.dro b o e).2 (h.dro b o e).1 (hnd b o e)) rfl rfl rfl,fun k hks hkp=>?_⟩
 ·unfold Own.upd at hk'
  split at hk'
  ·rename_i e;exact (hrow.lt k e).2
  ·split at hk'
   ·rename_i e;exact L0a (hfld.lt k e).2 hsize
   ·exact L0a (xc k t hk') hsize
 ·rcases hor with hb | rfl | ⟨o,e⟩
  ·exact fun e=>(hnb k e).2.1 k hb rfl
  ·exact fun e=>(hnb 0 e).2.2 rfl
  ·exact hnd k o e
 ·by_cases e:i=R.frs.length
  ·subst e
   obtain rfl:p=x:=by
    have:(R.frs++[p])[R.frs.length]?=some x:=hx;simpa using this
   refine⟨A7 hfld fun b hb=>xe b (hfld.lt b hb).2 (hnb b hb).1,fun b hb=>?_⟩;unfold Own.upd;rw[if_neg (fun e1=>by
    rcases hon b e1 with e2 | e2
    ·have:=(hnb b hb).1;rw [e2] at this;cases this
    ·have:=(hfld.lt b hb).2;omega),if_pos hb]
  ·have xa:(R.frs++[p])[i]?=some x:=hx
   have hi:i < R.frs.length:=by
    have:=(L1a.1 xa).1;simp at this;omega
   rw[List.getElem?_append_left hi] at xa;exact (h.loc i x xa).kept (keep _ R5 R5)
 ·by_cases e:i=R.frs.length
  ·subst e
   obtain rfl:p=x:=by
    have:(R.frs++[p])[R.frs.length]?=some x:=hx;simpa using this
   rw[hs.1,hs.2];exact⟨World.ownsRow_nil _ _ _ _,fun b hb=>by cases hb⟩
  ·have xa:(R.frs++[p])[i]?=some x:=hx
   have hi:i < R.frs.length:=by
    have:=(L1a.1 xa).1;simp at this;omega
   rw[List.getElem?_append_left hi] at xa;exact (h.stk i x xa).kept (keep _ R5 R5)
 ·cases e:own k with
  | none=>exact xd k e hks hkp
  | some t=>exact xb k t e
theorem jL {X w4:World} {R:RfR} {v4:Value} (h:A8 w own mb g R) (hX:Below w.heap.size w X) (hgrow:X.grownBy w4 R.cv.ownBlock) (hown:w4.ownsRow 0 86 4 v4 (R.frs.length+1) (R.frs.flatMap FrR.cells++p.cells)) (hat:∀b,v4.ownBlock=some b->R.cv.ownBlock=some b\/w.heap.size<=b)
  (hfld:w.ownsRow 0 92 2 p.lv p.loc.length (A5 p.loc)) (hnb:M9 own g p.lv) (hnd:∀b o,R.da=some ⟨b,o,none⟩->p.lv.ownBlock≠some b) (hs:p.sv=.slice none 0 0/\p.stk=[]) :
  w4.cell? ⟨mb,4,none⟩=some R.cv/\w4.frozen? ⟨mb,4,none⟩=false/\mb < w4.heap.size/\(∀k,k < w.heap.size->own k=none->w4.heap[k]?=w.heap[k]?) /\
   A8 (w4.setCell ⟨mb,4,none⟩ v4) ((own.upd p.lv.ownBlock (.loc R.frs.length)).upd v4.ownBlock .called) mb g { R with cv:=v4,frs:=R.frs++[p] } /\
   ∀B,B<=w.heap.size->(∀b,p.lv.ownBlock=some b->B<=b)->aO B own w ((own.upd p.lv.ownBlock (.loc R.frs.length)).upd v4.ownBlock .called) (w4.setCell ⟨mb,4,none⟩ v4):=by
 have xd:=h.lt _ _ h.me;have xg:∀b,R.cv.ownBlock=some b->own b=some .called:=h.called.2
 have xc:w.heap.size<=w4.heap.size:=Nat.le_trans hX.size hgrow.size;have xa:∀k,k < w.heap.size->own k≠some .called->w4.heap[k]?=w.heap[k]?:=fun k hk ho=>by
  rw[hgrow.block k (L0a hk hX.size) (fun e=>ho (xg k e.symm)),hX.block k hk]
 have xb:=xa mb xd (by rw [h.me];simp);have xe:∀j,w4.frozen? ⟨mb,j,none⟩=false:=fun j=>by rw [L0c (w:=w) (a:=⟨mb,j,none⟩) xb];exact h.fz j
 have hc:∀j,w4.cell? ⟨mb,j,none⟩=w.cell? ⟨mb,j,none⟩:=fun j=>L0b (w:=w) (a:=⟨mb,j,none⟩) xb
 have xf:F4 w own v4 .called:=fun b hb=>by
  rcases hat b hb with e | e
  ·exact Or.inl (xg b e)
  ·exact Or.inr e
 have xh:v4.ownBlock≠some mb:=fun e=>by
  rcases xf mb e with e | e
  ·rw [h.me] at e;cases e
  ·omega
 have c4:w4.cell? ⟨mb,4,none⟩=some R.cv:=(hc 4).trans h.c4;have hp:=h.addFrame (w':=w4.setCell ⟨mb,4,none⟩ v4) (p:=p) (hv:=v4) (by simpa using xc) (fun k hk hne ho=>by rw [heap_setCell_other _ _ _ _ hne];exact xa k hk ho) (fun j hj=>(B8 _ (Ne.symm hj)).trans (hc j)) (World.cell?_setCell_same _ _ _ c4) (fun j=>by go_simp;try exact xe j)
  (by rw [List.flatMap_append,List.flatMap_singleton];exact ownsRow_setCell_other hown xh _) xf hfld hnb hnd hs
 refine⟨c4,xe 4,L0a xd xc,fun k hk hn=>xa k hk (by rw [hn];simp),hp.1,fun B hB hfB=>⟨hgrow.os.trans hX.os,hgrow.tape.trans hX.tape,hgrow.output.trans hX.output,by simpa using xc,fun k hk hn=>?_,fun k hk=>hp.2 k (L0a hk hB) fun e=>by have:=hfB k e;omega⟩⟩;rw[heap_setCell_other _ _ _ _ (fun e=>by rw [e,h.me] at hn;cases hn)];exact xa k (L0a hk hB) (by rw [hn];simp)
theorem A8.setOwn {R:RfR} {fs:List FrR} {f f':FrR} {cb cc:Nat} (h:A8 w own mb g R) (hf:R.frs=fs++[f]) (hcv:R.cv=.slice (some ⟨cb,0,none⟩) R.frs.length cc) (hlv:f'.lv=f.lv) (hloc:f'.loc=f.loc) (hsize:w.heap.size=w'.heap.size) (hk:∀k,k≠cb->w'.heap[k]?=w.heap[k]?)
  (hrow:w'.ownsRow 0 86 4 (.slice (some ⟨cb,0,none⟩) R.frs.length cc) R.frs.length ((fs++[f']).flatMap FrR.cells)) (hst:Row w own (.stk fs.length) 92 2 f'.sv f'.stk.length (A5 f'.stk)) :
  A8 w' own mb g { R with frs:=fs++[f'] }:=by
 have xe:=h.lt;have xb:own cb=some .called:=h.called.2 cb (by rw [hcv];rfl);have keep:∀t,t≠.called->∀k,own k=some t->w'.heap[k]?=w.heap[k]?/\own k=some t:=fun t ht k hk'=>⟨hk k (fun e=>by rw [e,xb] at hk';exact ht (Option.some.inj hk').symm),hk'⟩
 have xc:=(keep .mach R5 mb h.me).1;have kc:∀i,w'.cell? ⟨mb,i,none⟩=w.cell? ⟨mb,i,none⟩:=fun i=>L0b (w:=w) (a:=⟨mb,i,none⟩) xc
 have xd:(fs++[f']).length=R.frs.length:=by rw [hf];simp
 have xf:R.frs[fs.length]?=some f:=by rw [hf];simp
 have xa:∀i x,(fs++[f'])[i]?=some x->(i=fs.length/\x=f')\/(i < fs.length/\R.frs[i]?=some x):=fun i x hx=>by
  rcases Nat.lt_or_ge i fs.length with hl | hl
  ·rw [List.getElem?_append_left hl] at hx
   exact Or.inr ⟨hl,by rw [hf,List.getElem?_append_left hl];exact hx⟩
  ·rw [List.getElem?_append_right hl] at hx
   have:i - fs.length=0:=by
    have:=(L1a.1 hx).1;simp at this;omega
   rw[this] at hx;exact Or.inl ⟨by omega,by simpa using hx.symm⟩
 refine h.edit (R':={ R with frs:=fs++[f'] }) (Nat.le_of_eq hsize) (fun k t hk'=>by rw [<- hsize];exact xe k t hk') h.me (fun k hn _ _=>⟨hn,hk k fun e=>by rw [e,xb] at hn;cases hn⟩) (kc 0) ((kc 1).trans h.c1) ((kc 2).trans h.c2) ((kc 3).trans h.c3) ((kc 4).trans h.c4) ((kc 5).trans h.c5) (kc 6) (fun j=>by rw [L0c (w:=w) (a:=⟨mb,j,none⟩) xc];exact h.fz j)
  (h.out.kept (keep _ R5)) ⟨?_,fun b hb=>?_⟩ (h.things.kept (keep _ R5)) (fun i x hx=>?_) (fun i x hx=>?_) (fun i x hx=>(h.fld i x hx).kept (keep _ R5)) (fun b o e=>(h.dro b o e).2) rfl rfl rfl
 ·rw [show ({ R with frs:=fs++[f'] } : RfR).frs.length=R.frs.length from xd]
  show w'.ownsRow 0 86 4 R.cv R.frs.length _;rw[hcv];exact hrow
 ·exact h.called.2 b hb
 ·rcases xa i x hx with ⟨rfl,rfl⟩ | ⟨hi,hx⟩
  ·rw [hlv,hloc]
   exact (h.loc _ f xf).kept (keep _ R5)
  ·exact (h.loc i x hx).kept (keep _ R5)
 ·rcases xa i x hx with ⟨rfl,rfl⟩ | ⟨hi,hx⟩
  ·exact hst.kept (keep _ R5)
  ·exact (h.stk i x hx).kept (keep _ R5)
end
section
variable {R:RfR} {W w:World} {fs:List FrR} {g:PgR} {mb:Nat} {own:Own}
theorem xI (h:A8 W own mb g R) (hd:12<=R.frs.length) (hd2:R.frs.length<=1000) (k:Int) :
  Calls prog 137 #[.pointer (some ⟨mb,0,none⟩),.int .i64 k] W fun e w'=>e=.returned (.int .i64 5)/\w'=W:=by
 have xa:=h.lt _ _ h.me;obtain⟨a,c,hv,_⟩:=B4 h.called.1;have m4:=h.c4;rw[hv] at m4;have xb:(12:Int)<=(R.frs.length:Int):=by omega
 generalize R.frs.length=n at *
 clear h hv;go_enter func137,ntmps137;go_wp2_with fail;go_ret;exact⟨rfl,rfl⟩
theorem A8.cutTop {R:RfR} {f:FrR} {cb cc:Nat} (h:A8 w own mb g R) (hf:R.frs=fs++[f]) (hcv:R.cv=.slice (some ⟨cb,0,none⟩) R.frs.length cc) {rest:List Val} {sv:Value} (hst:Row w own (.stk fs.length) 92 2 sv rest.length (A5 rest)) :
  A8 (w.setCell ⟨cb,fs.length*4+3,none⟩ sv) own mb g { R with frs:=fs++[{ f with sv:=sv,stk:=rest }] }/\A2 own w own (w.setCell ⟨cb,fs.length*4+3,none⟩ sv):=by
 have hl:=h.called.1;rw[hcv] at hl;have xd:R.frs[fs.length]?=some f:=by rw [hf];simp
 have xb:own cb=some .called:=h.called.2 cb (by rw [hcv];rfl);have hr:=(World.ownsRow.stored hl (fs.length*4+3) sv).1;rw[<- G6 (c:=FrR.cells) FrR.cells_len (l:=R.frs) (i:=fs.length) (j:=3) (x:=f) (y:={ f with sv:=sv,stk:=rest }) (u:=sv) xd R4 rfl] at hr;have xc:R.frs.set fs.length { f with sv:=sv,stk:=rest }=fs++[{ f with sv:=sv,stk:=rest }]:=by rw [hf];simp
 rw[xc] at hr;have xa:∀k,k≠cb->(w.setCell ⟨cb,fs.length*4+3,none⟩ sv).heap[k]?=w.heap[k]?:=fun k hk=>heap_setCell_other _ _ _ _ hk
 exact⟨h.setOwn (f':={ f with sv:=sv,stk:=rest }) hf hcv rfl rfl R5 xa hr hst,⟨rfl,rfl,rfl,by simp,fun k _ hn=>xa k (fun e=>by rw [e,xb] at hn;cases hn),fun _ _=>rfl⟩⟩
theorem a4V {t:Tag} {sb n sc:Nat} {rest args:List Val} (h:Row w own t 92 2 (.slice (some ⟨sb,0,none⟩) n sc) n (A5 (rest++args))) (hn:n=rest.length+args.length):Row w own t 92 2 (.slice (some ⟨sb,0,none⟩) rest.length sc) rest.length (A5 rest):=by
 have:=h.cut (m:=rest.length) R4;rwa [G9,List.take_append_of_le_length (by rw [D3];omega),List.take_of_length_le (by rw [D3];omega)] at this
theorem a3f {R:RfR} {f:FrR} (h:A8 W own mb g R) (hf:R.frs=fs++[f]) (k p l:Nat) (hk:k < g.n) (hgn:g.n<=1000) (hp:(g.f k).p=(p:Int)) (hl:(g.f k).l=(l:Int)) (hpl:p<=l) (hl8:l<=1000) (hd:fs.length+1 < 12) {rest args:List Val} (hst:f.stk=rest++args) (hap:args.length=p) (hsn:f.stk.length<=1000) {sb sc:Nat} (hsv:f.sv=.slice (some ⟨sb,0,none⟩) f.stk.length sc) (hcut:rest.length < sc) :
  Calls prog 137 #[.pointer (some ⟨mb,0,none⟩),.int .i64 (k:Int)] W fun e w'=>e=.returned (.int .i64 0)/\∃own' cv lv sv,A8 w' own' mb g { R with cv:=cv,frs:=fs++[{ f with sv:=sv,stk:=rest }]++[⟨k,0,lv,.slice none 0 0,args++List.replicate (l - args.length) (0,0),[]⟩] }/\A2 own W own' w':=by
 have zd:=h.lt _ _ h.me;obtain⟨ca,cc,xi,_,xx⟩:=Row.cells FrR.cells_len h.called;have xj:R.frs.length=fs.length+1:=by rw [hf];simp
 have xo:R.frs[fs.length]?=some f:=by rw [hf];simp
 obtain⟨cb,rfl,za,yh,xt,xs⟩:=xx R4;have k3:=xs fs.length 3 f _ xo R3 rfl;have yt:=xt (fs.length*4+3);have m4:=h.c4;rw[xi,xj] at m4;obtain⟨g1,g2,g3⟩:=h.pg.2.1 R4;obtain⟨x0,x1,x2⟩:=g3 k hk;rw[hp] at x0;rw[hl] at x1;have m0:=h.c0;rw[g1] at m0;have xv:f.stk.length=rest.length+p:=by rw [hst,List.length_append,hap]
 rw[hsv,xv] at k3;have yw:(k:Int) < (g.n:Int):=by omega
 have yy:¬(12:Int)<=(fs.length:Int)+1:=by omega
 have xd:=h.stk fs.length f xo;obtain⟨yv,yd,e5,yp,xm⟩:=xd.vals;rw[hsv] at e5;have yz:rest.length+p<=sc:=by
  have:yd=sc:=by injection e5 with _ _ q;exact q.symm
  omega
 have xb:a4m W (some ⟨sb,rest.length*2,none⟩) args:=fun h0=>by
  obtain⟨b,e,hb,hc⟩:=xm R4;have e6:b=sb:=by
   injection e5 with q _ _
   rw[e] at q
   injection q with q
   injection q with q
   exact q.symm
  subst e6;refine⟨b,rest.length*2,rfl,hb,fun q u hu=>?_⟩;have yq:(A5 f.stk)[rest.length*2+q]?=some u:=by
   rw[hst,G9,List.getElem?_append_right (by rw [D3];omega),D3,Nat.add_sub_cancel_left];exact hu
  obtain⟨d,e7,xp⟩:=xm.src R4;rw[e] at e7
  cases e7;have:=xp _ u yq;rwa [X3] at this
 have xw:Row W own (.stk fs.length) 92 2 (.slice (some ⟨sb,0,none⟩) rest.length sc) rest.length (A5 rest):=by
  have h9:=xd;rw[hsv,hst] at h9;exact a4V h9 (by rw [List.length_append])
 obtain⟨hM,xu⟩:=h.cutTop hf xi xw;have HM:=hid hM;have xf:Hid ((W.setCell ⟨cb,fs.length*4+3,none⟩ (.slice (some ⟨sb,0,none⟩) rest.length sc)).ownsRow 0 86 4 (.slice (some ⟨cb,0,none⟩) (fs.length+1) cc) (fs.length+1) ((fs++[{ f with sv:=.slice (some ⟨sb,0,none⟩) rest.length sc,stk:=rest }]).flatMap FrR.cells)):=hid (by
  have h9:=hM.called.1;rw[show ({ R with frs:=fs++[{ f with sv:=.slice (some ⟨sb,0,none⟩) rest.length sc,stk:=rest }] } : RfR).cv=.slice (some ⟨cb,0,none⟩) R.frs.length cc from xi,xj] at h9;simpa using h9)
 have xn:=hid xi;have xk:=hid xj;have yr:=hid xu;have HH:=hid h;obtain⟨xl,hi,hz,ya,xy⟩:=info_parts I5;have xq:Hid (∀W:World,(Instr.makeSlice 84 (.int .i64 (l:Int)) (.int .i64 (l:Int))).run prog W=.ok (.slice (some ⟨W.heap.size,0,none⟩) l l) (W.alloc (.cells (madeCells #[.int .u8 0,.int .i64 0] (l*2)) 92))):=by
  intro W;have hr:=run_make (P:=prog) W 84 92 xl _ underlying84 hi hz .i64 .i64 l l R4 (Int.le_refl _) (by rw [xy];omega) R4;simpa [ya,Value.cells] using hr
 have zc:=xq.out;subst hap;have yu:=eT (w:=W) (vc:=sc - rest.length) (l:=l) hpl xb (.cells #[.int .i64 (args.length:Int),.int .i64 (l:Int),.slice (g.f k).a (g.f k).n (g.f k).c] 163);obtain⟨ye,xr,yb,xg,xe⟩:=info_parts eH;have HI:=hid xr;have HZ:=hid yb;have ym:=hid xg;have yj:=hid xe;have yx:¬rest.length=sc:=by omega
 have yn:(rest.length:Int)<=(rest.length:Int)+(args.length:Int):=by omega
 have yk:rest.length<=sc:=by omega
 have yc:mb < W.heap.size+1:=by omega
 have yg:cb < W.heap.size+1:=by omega
 have yf:mb < W.heap.size+1+1:=by omega
 have ys:cb < W.heap.size+1+1:=by omega
 have yl:rest.length+args.length<=1000:=by omega
 clear h hf hp hl hst hsv xi xx xs xt xo xj g1 g3 hM xu xd e5 yp xm xb xw hi hz ya xy xr yb xg xe xq xv hsn;go_enter func137,ntmps137;go_wp2_with fail;go_region
 go_wp2_with (at_builtin;go_must (refine B0 _ rfl (.tmp 67) (.tmp 71) 66 rfl 0 86 ye _ 4 64 underlying66 HI.out HZ.out ym.out yj.out rfl R3 (.slice (some ⟨cb,0,none⟩) (fs.length+1) cc) (fs.length+1) ((fs++[{ f with sv:=.slice (some ⟨sb,0,none⟩) rest.length sc,stk:=rest }]).flatMap FrR.cells) rfl (by repeat (first | exact xf.out | refine World.ownsRow.alloc ?_ _ | refine World.ownsRow.drew ?_)) (some ⟨W.heap.size+1+1,0,none⟩) 1 1 [.int .i64 (k:Int),.int .i64 0,.slice (some ⟨W.heap.size+1,0,none⟩) l l,.slice none 0 0] rfl rfl (fun _=>⟨_,rfl,World.news_of_block (cs:=#[.int .i64 (k:Int),.int .i64 0,.slice (some ⟨W.heap.size+1,0,none⟩) l l,.slice none 0 0]) (t:=86) (fr:=(0,0)) (B1 R5)⟩) (by intro u hu;simp at hu;rcases hu with rfl | rfl | rfl | rfl <;> rfl) Q5 R4 R5 ?_))
 intro v4 w4 hown4 hgrow4 hat4;obtain⟨va,vc,yo,_⟩:=B4 hown4;subst yo;have xa:(args++List.replicate (l - args.length) ((0,0):Val)).length=l:=by rw [List.length_append,List.length_replicate];omega
 have xh:(((W.setCell ⟨cb,fs.length*4+3,none⟩ (.slice (some ⟨sb,0,none⟩) rest.length sc)).alloc (Obj.cells #[.int .i64 (args.length:Int),.int .i64 (l:Int),.slice (g.f k).a (g.f k).n (g.f k).c] 163)).alloc (Obj.cells (A5 (args++List.replicate (l - args.length) (0,0))).toArray 92)).ownsRow 0 92 2 (.slice (some ⟨W.heap.size+1,0,none⟩) l l) (args++List.replicate (l - args.length) ((0,0):Val)).length (A5 (args++List.replicate (l - args.length) (0,0))):=by
  have h9:=World.ownsRow_lit (base:=0) (e:=92) (size:=2) ((W.setCell ⟨cb,fs.length*4+3,none⟩ (.slice (some ⟨sb,0,none⟩) rest.length sc)).alloc (Obj.cells #[.int .i64 (args.length:Int),.int .i64 (l:Int),.slice (g.f k).a (g.f k).n (g.f k).c] 163)) (A5 (args++List.replicate (l - args.length) (0,0))).toArray l (Nat.zero_le _) Q5 (by simp only [List.size_toArray];rw [D3,xa])
  rw[xa];simpa using h9
 have xc:∀b,(Value.slice (some ⟨W.heap.size+1,0,none⟩) l l).ownBlock=some b->b=W.heap.size+1:=fun b hb=>by
  have:W.heap.size+1=b:=by simpa [Value.ownBlock] using hb
  exact this.symm
 have xz:M9 own g (.slice (some ⟨W.heap.size+1,0,none⟩) l l):=fun b hb=>by
  have:=xc b hb;subst this;refine⟨?_,fun q hq e=>?_,by omega⟩
  ·cases e:own (W.heap.size+1) with
   | none=>rfl
   | some t=>have:=HH.out.lt _ t e;omega
  ·have:=HH.out.pg.blk_lt hq;omega
 obtain⟨q1,q2,q3,q4,q5,q6⟩:=jL (p:=⟨k,0,(.slice (some ⟨W.heap.size+1,0,none⟩) l l),.slice none 0 0,args++List.replicate (l - args.length) (0,0),[]⟩) (HM.out.same (Below.alloc (Below.alloc (Below.refl _ _) (L1c _) _) Q2 _)) (Below.drew (Below.alloc (Below.refl _ _) (L1c _) _)) (by rw [show ({ R with frs:=fs++[{ f with sv:=.slice (some ⟨sb,0,none⟩) rest.length sc,stk:=rest }] } : RfR).cv=.slice (some ⟨cb,0,none⟩) (fs.length+1) cc by rw [<- xk.out];exact xn.out];exact hgrow4) (by simpa [FrR.cells] using hown4) (fun b hb=>by
  rcases hat4 b hb with e | e
  ·exact Or.inl (by rw [show ({ R with frs:=fs++[{ f with sv:=.slice (some ⟨sb,0,none⟩) rest.length sc,stk:=rest }] } : RfR).cv=.slice (some ⟨cb,0,none⟩) (fs.length+1) cc by rw [<- xk.out];exact xn.out];exact e)
  ·exact Or.inr Q8) xh xz (fun b o e hb=>by
  have:=xc b hb;have:=(HH.out.dro b o e).1;omega) ⟨rfl,rfl⟩
 have zb:w4.cell? ⟨mb,4,none⟩=some (.slice (some ⟨cb,0,none⟩) (fs.length+1) cc):=by rw [q1];show some R.cv=_;rw [xn.out,xk.out]
 have HT:=hid (((yr.out.touB (L1c _)).trans (aO.of_below ((Below.alloc (Below.alloc (Below.refl _ _) (L1c _) _) Q2 _).mono R5))).trans (q6 W.heap.size Q2 (fun b hb=>by have:=xc b hb;omega))).touched;have yi:=hid q5;clear q1 q4 q5 q6 hown4 hgrow4 hat4 xh xz;go_wp2_with fail;go_ret;exact⟨rfl,_,⟨_,_,_,by have h9:=yi.out;rw [List.append_assoc] at h9;exact h9⟩,HT.out⟩
end
section
variable {W:World} {mb:Nat}
theorem a3o (fuel:Int) (h:fuel < 0) :
  Calls prog 61 #[.pointer (some ⟨mb,0,none⟩),.int .i64 fuel] W fun e w'=>e=.returned (.tuple #[.int .i64 0,.int .i64 5])/\w'=W:=by
 go_enter func61,ntmps61;go_wp2_with fail;go_ret2;exact⟨rfl,rfl⟩
theorem a1n (fuel:Int) (h:10000 < fuel) :
  Calls prog 61 #[.pointer (some ⟨mb,0,none⟩),.int .i64 fuel] W fun e w'=>e=.returned (.tuple #[.int .i64 0,.int .i64 5])/\w'=W:=by
 have h0:¬fuel < 0:=by omega
 go_enter func61,ntmps61;go_wp2_with fail;go_ret2;exact⟨rfl,rfl⟩
theorem a3m {own:Own} {g:PgR} {R:RfR} (h:A8 W own mb g R) (fuel:Nat) (hfu:fuel<=10000) (S:Nat->RfR->Prop) (h0:S 0 R)
  (hstep:∀i U own' R',i < fuel->S i R'->R'.st=0->A8 U own' mb g R'->Calls prog 100 #[.pointer (some ⟨mb,0,none⟩)] U fun e w'=>e=.returned (.tuple #[])/\∃own'' R'',S (i+1) R''/\A8 w' own'' mb g R''/\A2 own' U own'' w') :
  Calls prog 61 #[.pointer (some ⟨mb,0,none⟩),.int .i64 (fuel:Int)] W fun e w'=>∃n own' R',n<=fuel/\e=.returned (.tuple #[.int .i64 (n:Int),.int .i64 0])/\S n R'/\(n=fuel\/R'.st≠0)/\A8 w' own' mb g R'/\A2 own W own' w':=by
 have HS:=hid hstep;have H0:=hid h0;have HH:=hid h;have xi:¬(fuel:Int) < 0:=by omega
 have xj:¬(10000:Int) < (fuel:Int):=by omega
 clear h hstep h0;go_enter func61,ntmps61;go_wp2_with fail;go_loopw [6] (fun vi wr=>∃(i:Nat) (own':Own) (R':RfR),i<=fuel/\vi=.int .i64 i/\S i R'/\A8 wr own' mb g R'/\A2 own W own' wr) (fun vi _=>fuel - (intOf vi).toNat)
 case atStart=>exact ⟨0,own,R,Nat.zero_le _,rfl,H0.out,HH.out,A2.refl _ _⟩
 case round =>
  obtain⟨i,own',R',hi,rfl,xa,hr,ht⟩:=hrel;have xl:=hr.lt _ _ hr.me;have m2:=hr.c2;have HR:=hid hr;have HT:=hid ht;have xd:=hid xa;by_cases hlt:i < fuel
  ·have xb:(i:Int) < (fuel:Int):=by omega
   by_cases hst:R'.st=0
   ·have HC:=hid (HS.out i wr own' R' hlt xa hst hr)
    rw[hst] at m2;clear hr ht xa hst;go_wp2_with (go_at_call 100;refine HC.out.mono ?_;rintro e w1 ⟨rfl,xc,R2,xh,xg,xe⟩)
    go_roundw
    case rel=>exact ⟨i+1,xc,R2,by omega,by go_num,xh,xg,HT.out.trans xe⟩
    case measure=>simp [intOf];omega
   ·have xk:(R'.st == 0)=false:=L2c.2 hst
    have xf:=hid hst;generalize hx:R'.st=st at *
    clear hr ht xa hst;go_wp2_with fail;go_ret2;exact⟨i,own',R',hi,rfl,xd.out,Or.inr (by rw [hx];exact xf.out),HR.out,HT.out⟩
  ·obtain rfl:i=fuel:=by omega
   have xb:¬(i:Int) < (i:Int):=by omega
   clear hr ht xa;go_wp2_with fail;go_ret2;exact⟨i,hi,rfl,own',R',xd.out,Or.inl rfl,HR.out,HT.out⟩
end
end Go.Proofs.YtbkmgoffiigdbaaGreatDoor
