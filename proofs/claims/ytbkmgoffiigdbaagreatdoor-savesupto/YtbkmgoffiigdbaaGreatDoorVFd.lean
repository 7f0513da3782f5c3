import Derived.Test.YtbkmgoffiigdbaaGreatDoorVFc
import Derived.Test.YtbkmgoffiigdbaaGreatDoorVEj
namespace Go.Proofs.YtbkmgoffiigdbaaGreatDoor
open Go.RowKit Go.Sort
section
variable {R:McR} {W:World} {ab wb:Nat} {g:PgR} {l:List Val} {own:Own} {t:Tag} {v:Value}
theorem a3h {mb kb S E:Nat} {w W1 U4 w4 V wr:World} {al:List Nat} {av sv cv hv:Value} {ol:List ObR} {fl:List FrR} 
  (h:A4 w own mb g R) (p1:Pk1 w R al kb av sv ol S E W1) (hU4:L0d W1 U4) (q1:w4.ownsRow U4.heap.size 86 4 cv R.frs.length (fl.flatMap FrR.cells)) (q2:fl.length=R.frs.length)
  (q3:∀(k:Nat) (f:FrR),R.frs[k]?=some f->∃lv sv,fl[k]?=some { f with lv:=lv,sv:=sv }/\w4.ownsRow U4.heap.size 92 2 lv f.loc.length (A7 f.loc)/\w4.ownsRow U4.heap.size 92 2 sv f.stk.length (A7 f.stk)/\∀b,cv.ownBlock=some b->lv.ownBlock≠some b/\sv.ownBlock≠some b)
  (q4:∀(k k':Nat) (t t':Bool) (f f':FrR) (b:Nat),(k < k'\/(k=k'/\t≠t'))->k' < R.frs.length->fl[k]?=some f->fl[k']?=some f'->(f.val t).ownBlock=some b->(f'.val t').ownBlock=some b->False) (b4:L0d U4 w4) (hV:L0d w4 V)
  (hnd:al.Nodup) (hal:∀j,j∈al->j < R.obs.length)
  (p3:Pk3 (V.alloc (.cells #[.slice g.a g.n g.c,J R.st,R.ov,cv,zD,zD] 107)) V.heap.size hv (M3 ol al) wr) :
  ∃own',A4 wr own' V.heap.size g ⟨R.st,R.ov,R.out,cv,fl,hv,M3 ol al,zD,[]⟩/\∀b t,own' b=some t↔K3 V.heap.size ⟨R.st,R.ov,R.out,cv,fl,hv,M3 ol al,zD,[]⟩ b t:=by
 have s1:=p1.sE;have s2:=hU4.size;have s3:=b4.size;have s4:=hV.size;have xo:L0d w V:=A3 hV (A3 b4 (A3 hU4 p1.bel));have s5:=xo.size;have xt:L0d W1 V:=A3 hV (A3 b4 hU4);have xv:(V.alloc (.cells #[.slice g.a g.n g.c,J R.st,R.ov,cv,zD,zD] 107)).heap.size=V.heap.size+1:=by simp
 have yf:=p3.size;rw[xv] at yf;have xf:∀b,b < V.heap.size->wr.heap[b]?=V.heap[b]?:=fun b hb=>by
  rw[p3.blk b (by rw [xv];omega) R5];exact (L3a (L3b _ _) (L1c _) _).block b hb
 have yk:∀{B e size n:Nat} {v:Value} {xs:List Value},w.ownsRow B e size v n xs->wr.ownsRow B e size v n xs:=fun hr=>A6 hr fun b hb=>by
  have:=(hr.lt b hb).2;rw[xf b R5];exact xo.block b this
 have yb:∀{B e size n:Nat} {v:Value} {xs:List Value},W1.ownsRow B e size v n xs->wr.ownsRow B e size v n xs:=fun hr=>A6 hr fun b hb=>by
  have:=(hr.lt b hb).2;rw[xf b R5];exact xt.block b this
 have xu:∀{B e size n:Nat} {v:Value} {xs:List Value},w4.ownsRow B e size v n xs->wr.ownsRow B e size v n xs:=fun hr=>A6 hr fun b hb=>by
  have:=(hr.lt b hb).2;rw[xf b R5];exact hV.block b this
 -- the objects
 have xm:∀(i:Nat) (O:ObR),(M3 ol al)[i]?=some O->∃j o fv,al[i]?=some j/\R.obs[j]?=some o/\ol[j]?=some { o with fv:=fv }/\O={ o with fv:=fv }/\W1.ownsRow S 92 2 fv o.fl.length (A7 o.fl)/\∀b,fv.ownBlock=some b->b < E:=fun i O hO=>by
  unfold M3 at hO;rw[List.getElem?_map] at hO;obtain⟨j,hj,rfl⟩:=Option.map_eq_some_iff.1 hO;obtain⟨o,ho⟩:∃o,R.obs[j]?=some o:=⟨_,L1b (hal j (L2a hj))⟩
  obtain⟨fv,h1,h2,h3⟩:=p1.new j o ho;exact⟨j,o,fv,hj,ho,h1,eS h1,h2,h3⟩
 have xn:∀(i:Nat) (F:FrR),fl[i]?=some F->∃f lv sv,R.frs[i]?=some f/\F={ f with lv:=lv,sv:=sv }/\w4.ownsRow U4.heap.size 92 2 lv f.loc.length (A7 f.loc)/\w4.ownsRow U4.heap.size 92 2 sv f.stk.length (A7 f.stk)/\∀b,cv.ownBlock=some b->lv.ownBlock≠some b/\sv.ownBlock≠some b:=fun i F hF=>by
  have hi:i < R.frs.length:=by rw [<- q2];exact (L1a.1 hF).1
  obtain⟨lv,sv,k1,k2,k3,k4⟩:=q3 i _ (L1b hi);rw[hF] at k1
  cases k1;exact⟨_,lv,sv,L1b hi,rfl,k2,k3,k4⟩
 obtain⟨R',xa⟩:∃R':McR,R'=⟨R.st,R.ov,R.out,cv,fl,hv,M3 ol al,zD,[]⟩:=⟨_,rfl⟩
 have xg:∀b,K3 V.heap.size R' b .out->b < w.heap.size:=fun b hb=>by
  rw[xa] at hb;exact h.lt b _ (h.out.2 b hb)
 have xd:∀b j,K3 V.heap.size R' b (.fld j)->S<=b/\b < E:=fun b j hb=>by
  rw[xa] at hb;obtain⟨O,hO,hb⟩:=hb;obtain⟨_,o,fv,_,_,_,rfl,k2,k3⟩:=xm j O hO;exact⟨(k2.lt b hb).1,k3 b hb⟩
 have xj:∀b,K3 V.heap.size R' b .called->U4.heap.size<=b/\b < w4.heap.size:=fun b hb=>by
  rw[xa] at hb;exact q1.lt b hb
 have xi:∀b i,K3 V.heap.size R' b (.loc i)->U4.heap.size<=b/\b < w4.heap.size/\cv.ownBlock≠some b:=fun b i hb=>by
  rw[xa] at hb;obtain⟨F,hF,hb⟩:=hb;obtain⟨f,lv,sv,_,rfl,k2,k3,k4⟩:=xn i F hF;exact⟨(k2.lt b hb).1,(k2.lt b hb).2,fun e=>(k4 b e).1 hb⟩
 have xh:∀b i,K3 V.heap.size R' b (.stk i)->U4.heap.size<=b/\b < w4.heap.size/\cv.ownBlock≠some b:=fun b i hb=>by
  rw[xa] at hb;obtain⟨F,hF,hb⟩:=hb;obtain⟨f,lv,sv,_,rfl,k2,k3,k4⟩:=xn i F hF;exact⟨(k3.lt b hb).1,(k3.lt b hb).2,fun e=>(k4 b e).2 hb⟩
 have xc:∀b,K3 V.heap.size R' b .mach->b=V.heap.size:=fun b hb=>hb
 have xe:∀b,K3 V.heap.size R' b .slots->V.heap.size+1<=b/\b < wr.heap.size:=fun b hb=>by
  rw[xa] at hb;have:=p3.row.lt b hb;rw[xv] at this;exact this
 have xb:∀b,¬K3 V.heap.size R' b .draws:=fun b hb=>by
  rw[xa] at hb
  cases hb
 have xr:∀(b i i':Nat) (t t':Bool) (F F':FrR),R'.frs[i]?=some F->R'.frs[i']?=some F'->(F.val t).ownBlock=some b->(F'.val t').ownBlock=some b->i=i'/\t=t':=fun b i i' t t' F F' hF xk h1 h2=>by
  rw[xa] at hF xk;have hi:i < R.frs.length:=by rw [<- q2];exact (L1a.1 hF).1
  have yi:i' < R.frs.length:=by rw [<- q2];exact (L1a.1 xk).1
  rcases Nat.lt_trichotomy i i' with hlt | rfl | hlt
  ·exact (q4 i i' t t' F F' b (L4a hlt) yi hF xk h1 h2).elim
  ·refine ⟨rfl,?_⟩
   by_cases e:t=t'
   ·exact e
   ·exact (q4 i i t t' F F' b (L4b ⟨rfl,e⟩) hi hF xk h1 h2).elim
  ·exact (q4 i' i t' t F' F b (L4a hlt) hi xk hF h2 h1).elim
 have xy:∀b t t',K3 V.heap.size R' b t->K3 V.heap.size R' b t'->t=t':=fun b t t' ht ht'=>by
  cases t with
  | mach =>
   have e:=xc b ht
   cases t' with
   | mach=>rfl
   | out=>have:=xg b ht';omega
   | called=>have:=xj b ht';omega
   | slots=>have:=xe b ht';omega
   | draws=>exact (xb b ht').elim
   | loc i=>have:=xi b i ht';omega
   | stk i=>have:=xh b i ht';omega
   | fld j=>have:=xd b j ht';omega
  | out =>
   have e:=xg b ht
   cases t' with
   | mach=>have:=xc b ht';omega
   | out=>rfl
   | called=>have:=xj b ht';omega
   | slots=>have:=xe b ht';omega
   | draws=>exact (xb b ht').elim
   | loc i=>have:=xi b i ht';omega
   | stk i=>have:=xh b i ht';omega
   | fld j=>have:=xd b j ht';omega
  | called =>
   have e:=xj b ht;have e':cv.ownBlock=some b:=by rw [xa] at ht;exact ht
   cases t' with
   | mach=>have:=xc b ht';omega
   | out=>have:=xg b ht';omega
   | called=>rfl
   | slots=>have:=xe b ht';omega
   | draws=>exact (xb b ht').elim
   | loc i=>exact ((xi b i ht').2.2 e').elim
   | stk i=>exact ((xh b i ht').2.2 e').elim
   | fld j=>have:=xd b j ht';omega
  | slots =>
   have e:=xe b ht
   cases t' with
   | mach=>have:=xc b ht';omega
   | out=>have:=xg b ht';omega
   | called=>have:=xj b ht';omega
   | slots=>rfl
   | draws=>exact (xb b ht').elim
   | loc i=>have:=xi b i ht';omega
   | stk i=>have:=xh b i ht';omega
   | fld j=>have:=xd b j ht';omega
  | draws=>exact (xb b ht).elim
  | loc i =>
   have e:=xi b i ht
   cases t' with
   | mach=>have:=xc b ht';omega
   | out=>have:=xg b ht';omega
   | called=>exact (e.2.2 (by rw [xa] at ht';exact ht')).elim
   | slots=>have:=xe b ht';omega
   | draws=>exact (xb b ht').elim
   | loc i' =>
    obtain⟨F,hF,hb⟩:=ht;obtain⟨F',xk,xl⟩:=ht';rw[(xr b i i' false false F F' hF xk hb xl).1]
   | stk i' =>
    obtain⟨F,hF,hb⟩:=ht;obtain⟨F',xk,xl⟩:=ht';have:=(xr b i i' false true F F' hF xk hb xl).2
    cases this
   | fld j=>have:=xd b j ht';omega
  | stk i =>
   have e:=xh b i ht
   cases t' with
   | mach=>have:=xc b ht';omega
   | out=>have:=xg b ht';omega
   | called=>exact (e.2.2 (by rw [xa] at ht';exact ht')).elim
   | slots=>have:=xe b ht';omega
   | draws=>exact (xb b ht').elim
   | loc i' =>
    obtain⟨F,hF,hb⟩:=ht;obtain⟨F',xk,xl⟩:=ht';have:=(xr b i i' true false F F' hF xk hb xl).2
    cases this
   | stk i' =>
    obtain⟨F,hF,hb⟩:=ht;obtain⟨F',xk,xl⟩:=ht';rw[(xr b i i' true true F F' hF xk hb xl).1]
   | fld j=>have:=xd b j ht';omega
  | fld j =>
   have e:=xd b j ht
   cases t' with
   | mach=>have:=xc b ht';omega
   | out=>have:=xg b ht';omega
   | called=>have:=xj b ht';omega
   | slots=>have:=xe b ht';omega
   | draws=>exact (xb b ht').elim
   | loc i=>have:=xi b i ht';omega
   | stk i=>have:=xh b i ht';omega
   | fld j' =>
    rw[xa] at ht ht';obtain⟨O,hO,hb⟩:=ht;obtain⟨O',ye,xl⟩:=ht';obtain⟨x,o,fv,k1,k2,k3,rfl,_⟩:=xm j O hO;obtain⟨x',o',yl,yd,yh,ya,rfl,_⟩:=xm j' O' ye;have yj:=(L1a.1 k2).1;have xw:=(L1a.1 yh).1;rcases Nat.lt_trichotomy x x' with hlt | rfl | hlt
    ·exact (p1.dis x x' _ _ b hlt xw k3 ya hb xl).elim
    ·have yg:=(L1a.1 k1).1
     have yc:j=j':=(List.getElem?_inj yg hnd).1 (k1.trans yd.symm);rw[yc]
    ·exact (p1.dis x' x _ _ b hlt yj ya k3 xl hb).elim
 have xx:∀b t,K3 V.heap.size R' b t->b < wr.heap.size:=fun b t ht=>by
  cases t with
  | mach=>have:=xc b ht;omega
  | out=>have:=xg b ht;omega
  | called=>have:=xj b ht;omega
  | slots=>exact (xe b ht).2
  | draws=>exact (xb b ht).elim
  | loc i=>have:=xi b i ht;omega
  | stk i=>have:=xh b i ht;omega
  | fld j=>have:=xd b j ht;omega
 have xq:∀b,b < w.heap.size->own b=none->∀t,¬K3 V.heap.size R' b t:=fun b hb hn t ht=>by
  cases t with
  | mach=>have:=xc b ht;omega
  | out =>
   rw[xa] at ht;have:=h.out.2 b ht;rw[hn] at this
   cases this
  | called=>have:=xj b ht;omega
  | slots=>have:=xe b ht;omega
  | draws=>exact xb b ht
  | loc i=>have:=xi b i ht;omega
  | stk i=>have:=xh b i ht;omega
  | fld j=>have:=xd b j ht;omega
 rw[<- xa];have xp:=h.pg.held xo.size fun k hk=>xo.block k (h.pg.blk_lt hk)
 have xz:=h.tab.held xo.size (xo.block 0 h.tab.1);have ym:0 < V.heap.size:=xz.1;refine tF xy xx ?_ ?_ ?_ ?_ ?_ ?_ ?_ ?_ ?_ ?_ ?_ ?_ ?_ ?_ ?_ ?_ ?_ ?_
 ·rw [p3.cj 0 R4];go_simp
 ·rw [p3.cj 1 R4,xa];go_simp
 ·rw [p3.cj 2 R4,xa];go_simp
 ·rw [p3.cj 3 R4,xa];go_simp
 ·rw [p3.c4,xa]
 ·rw [p3.cj 5 R4,xa];go_simp
 ·intro j;rw [p3.fz j];go_simp
 ·rw [xa];exact yk h.out.1
 ·rw [xa];show wr.ownsRow 0 86 4 cv fl.length _;rw [q2];exact E1 (xu q1) (L4c _)
 ·rw [xa];exact E1 p3.row (L4c _)
 ·rw [xa];exact World.ownsRow_nil _ _ _ _
 ·intro i F hF
  rw[xa] at hF;obtain⟨f,lv,sv,_,rfl,k2,k3,k4⟩:=xn i F hF;exact E1 (xu k2) (L4c _)
 ·intro i F hF
  rw[xa] at hF;obtain⟨f,lv,sv,_,rfl,k2,k3,k4⟩:=xn i F hF;exact E1 (xu k3) (L4c _)
 ·intro j O hO
  rw[xa] at hO;obtain⟨_,o,fv,_,_,_,rfl,k2,k3⟩:=xm j O hO;exact E1 (yb k2) (L4c _)
 ·exact xp.held R5 fun k hk=>xf k (xp.blk_lt hk)
 ·exact fun k hk=>xq k (h.pg.blk_lt hk) (h.ro k hk)
 ·exact xz.held R5 (xf 0 xz.1)
 ·exact xq 0 h.tab.1 h.ro0
theorem U0.tag {q:Nat} (h:U0 R q v l t):t≠.mach/\t≠.out/\t≠.called/\t≠.slots/\t≠.draws:=by
 rcases h with ⟨i,f,_,_,_,_,rfl⟩ | ⟨i,f,_,_,_,_,rfl⟩ | ⟨j,o,_,_,_,_,rfl⟩ <;> simp
theorem a1k {a:Option Addr} {c n:Nat} (hr:Row W own t 92 2 v n (A7 l)) (hn:n=l.length) (hv:v=.slice a n c) (h1:own wb=none) (h2:own ab=none):VIn W wb ab a l:=fun h0=>by
 subst hn;obtain⟨b,c',e,_,hb⟩:=hr.1.form h0;have xb:=hr.1;have ho:=hr.2 b (by rw [e];rfl);rw[hv] at e xb
 cases e;refine⟨b,rfl,hb,(fun e=>by rw [e,h1] at ho;cases ho),(fun e=>by rw [e,h2] at ho;cases ho),fun i x hx=>?_⟩;have hi:=(L1a.1 hx).1;have xa:∀j,j < 2->W.cell? ⟨b,i*2+j,none⟩=(O9 x)[j]?:=fun j hj=>by
  rw[xb.cellAt _ R5];exact D3 E6 hx hj
 exact⟨xa 0 R5,xa 1 R5⟩
theorem a5C {w':World} {pb:Nat} {s:McA} (h:A4 W own pb g R) (mv:bR W own R (J8 (A0 s)) (R.frs.length*2+R.obs.length) 0 w')
  (hst:R.st=s.st) (hout:R.out=s.out) (hfr:R.frs.map FrR.abs=s.frs) (hob:R.obs.map ObR.abs=(A0 s).map fun j=>s.obs.getD j (0,[]))
  (h1:own wb=none) (h2:own ab=none) (b1:¬g.blk wb) (b2:¬g.blk ab):a8K w' wb ab pb g (N8 s):=by
 have keep:∀b t,own b=some t->(t=.mach\/t=.out\/t=.called\/t=.slots)->w'.heap[b]?=W.heap[b]?:=fun b t hb ht=>mv.keep b (h.lt b t hb) fun q v l t' hq e=>by
  rw[hb] at e
  cases e;have:=hq.tag;rcases ht with rfl | rfl | rfl | rfl
  ·exact this.1 rfl
  ·exact this.2.1 rfl
  ·exact this.2.2.1 rfl
  ·exact this.2.2.2.1 rfl
 have xf:∀b t,own b=some t->b≠wb/\b≠ab:=fun b t hb=>⟨(fun e=>by rw [e,h1] at hb;cases hb),(fun e=>by rw [e,h2] at hb;cases hb)⟩
 have hp:=keep pb _ h.me (L4a rfl);obtain⟨oa,oc,ho⟩:=E0 h.out;obtain⟨fa,fc,hf⟩:=E0 h.called;obtain⟨ba,bc,hb⟩:=E0 h.slots;have xj:∀q v l t,U0 R q v l t->q < R.frs.length*2+R.obs.length:=fun q v l t hq=>by
  rcases hq with ⟨i,f,hi,rfl,_⟩ | ⟨i,f,hi,rfl,_⟩ | ⟨j,o,hj,rfl,_⟩
  ·have:=(L1a.1 hi).1;omega
  ·have:=(L1a.1 hi).1;omega
  ·have:=(L1a.1 hj).1;omega
 have xe:∀q v l t,U0 R q v l t->∃a c,v=.slice a l.length c/\VIn w' wb ab a (l.map (J8 (A0 s))):=fun q v l t hq=>by
  have hr:=mv.rows q v l t hq;have e:dK (J8 (A0 s)) (R.frs.length*2+R.obs.length) 0 q l=l.map (J8 (A0 s)):=by
   unfold dK;rw[if_pos (xj q v l t hq)]
  rw[e] at hr;obtain⟨a,c,hv⟩:=E0 hr;exact⟨a,c,hv,a1k hr R6 hv h1 h2⟩
 refine⟨⟨oa,oc,fa,fc,ba,bc,?_,?_,?_,?_,?_,?_,?_,?_⟩,⟨h.pg.held mv.size fun k hk=>mv.keep k (h.pg.blk_lt hk) fun q v l t _=>by rw [h.ro k hk];simp,fun k hk=>⟨fun e=>b1 (e▸hk),fun e=>b2 (e▸hk)⟩⟩,L0a (h.lt pb _ h.me) mv.size,xf pb _ h.me⟩
 ·rw [L0b (w:=W) (a:=⟨pb,0,none⟩) hp];exact h.c0
 ·rw [L0b (w:=W) (a:=⟨pb,1,none⟩) hp,h.c1,hst];rfl
 ·rw [L0b (w:=W) (a:=⟨pb,2,none⟩) hp,h.c2,ho,hout];rfl
 ·rw [L0b (w:=W) (a:=⟨pb,3,none⟩) hp,h.c3,hf]
  have:(N8 s).frs.length=R.frs.length:=by show (s.frs.map _).length=_;rw [<- hfr];simp
  rw[this]
 ·rw [L0b (w:=W) (a:=⟨pb,4,none⟩) hp,h.c4,hb]
  have:(N8 s).obs.length=R.obs.length:=by
   show ((A0 s).map _).length=_;have:=congrArg List.length hob;simp only[List.length_map] at this ⊢;omega
  rw[this]
 ·intro h0
  have xl:0 < R.out.length:=by rw [hout];exact h0
  obtain⟨b,c',e,_,xg⟩:=h.out.1.form xl;have xc:=h.out.1;have xb:=h.out.2 b (by rw [e];rfl);rw[ho] at e xc
  cases e;refine⟨b,rfl,L0a xg mv.size,(xf b _ xb).1,(xf b _ xb).2,fun i x hx=>?_⟩;have xk:R.out[i]?=some x:=by rw [hout];exact hx
  have hi:=(L1a.1 xk).1;rw[L0b (w:=W) (a:=⟨b,i,none⟩) (keep b _ xb (L4b (L4a rfl))),xc.cellAt i R5,List.getElem?_map,xk];rfl
 ·intro h0
  have hl:(N8 s).frs.length=R.frs.length:=by show (s.frs.map _).length=_;rw [<- hfr];simp
  obtain⟨b,c',e,_,xg⟩:=h.called.1.form R5;have xc:=h.called.1;have xb:=h.called.2 b (by rw [e];rfl);rw[hf] at e xc
  cases e;refine⟨b,rfl,L0a xg mv.size,(xf b _ xb).1,(xf b _ xb).2,fun i f hi=>?_⟩;have xh:((s.frs.map (oY (A0 s)))[i]?:Option FrA)=some f:=hi;rw[<- hfr,List.map_map,List.getElem?_map] at xh;obtain⟨F,hF,rfl⟩:=Option.map_eq_some_iff.1 xh;have xm:=(L1a.1 hF).1;have xa:∀j,j < 4->w'.cell? ⟨b,i*4+j,none⟩=F.cells[j]?:=fun j hj=>by
   rw[L0b (w:=W) (a:=⟨b,i*4+j,none⟩) (keep b _ xb (L4b (L4b (L4a rfl)))),xc.cellAt _ R5];exact D3 FrR.cells_len hF hj
  obtain⟨la,lc,e1,v1⟩:=xe (i*2) F.lv F.loc (.loc i) (L4a ⟨i,F,hF,rfl,rfl,rfl,rfl⟩);obtain⟨sa,sc,e2,v2⟩:=xe (i*2+1) F.sv F.stk (.stk i) (L4b (L4a ⟨i,F,hF,rfl,rfl,rfl,rfl⟩));have k2:w'.cell? ⟨b,i*4+2,none⟩=some F.lv:=xa 2 R5;have k3:w'.cell? ⟨b,i*4+3,none⟩=some F.sv:=xa 3 R5;refine⟨la,lc,sa,sc,xa 0 R5,xa 1 R5,?_,?_,v1,v2⟩
  ·rw [k2,e1]
   show some (Value.slice la F.loc.length lc)=some (.slice la (F.loc.map _).length lc);rw[List.length_map]
  ·rw [k3,e2]
   show some (Value.slice sa F.stk.length sc)=some (.slice sa (F.stk.map _).length sc);rw[List.length_map]
 ·intro h0
  have hl:(N8 s).obs.length=R.obs.length:=by
   show ((A0 s).map _).length=_;have:=congrArg List.length hob;simp only[List.length_map] at this ⊢;omega
  obtain⟨b,c',e,_,xg⟩:=h.slots.1.form R5;have xc:=h.slots.1;have xb:=h.slots.2 b (by rw [e];rfl);rw[hb] at e xc
  cases e;refine⟨b,rfl,L0a xg mv.size,(xf b _ xb).1,(xf b _ xb).2,fun i o hi=>?_⟩;have xh:(((A0 s).map (cZ s))[i]?:Option Ob)=some o:=hi;rw[List.getElem?_map] at xh;obtain⟨j,hj,rfl⟩:=Option.map_eq_some_iff.1 xh;have hO:(R.obs.map ObR.abs)[i]?=some (s.obs.getD j (0,[])):=by rw [hob,List.getElem?_map,hj];rfl
  rw[List.getElem?_map] at hO;obtain⟨O,xi,xd⟩:=Option.map_eq_some_iff.1 hO;have xm:=(L1a.1 xi).1;have xn:cZ s j=(O.kind,O.fl.map (J8 (A0 s))):=by
   unfold cZ;rw[List.getD_eq_getElem?_getD] at xd
   cases e:s.obs[j]? with
   | none =>
    rw[e] at xd;have e1:O.kind=0:=congrArg Prod.fst xd;have e2:O.fl=[]:=congrArg Prod.snd xd;rw[e1,e2];rfl
   | some q =>
    rw[e] at xd;have e1:O.kind=q.1:=congrArg Prod.fst xd;have e2:O.fl=q.2:=congrArg Prod.snd xd;rw[e1,e2]
  have xa:∀t,t < 2->w'.cell? ⟨b,i*2+t,none⟩=O.cells[t]?:=fun t ht=>by
   rw[L0b (w:=W) (a:=⟨b,i*2+t,none⟩) (keep b _ xb (L4b (L4b (L4b rfl)))),xc.cellAt _ R5];exact D3 ObR.cells_len xi ht
  obtain⟨va,vc,e1,v1⟩:=xe (R.frs.length*2+i) O.fv O.fl (.fld i) (L4b (L4b ⟨i,O,xi,rfl,rfl,rfl,rfl⟩));have k1:w'.cell? ⟨b,i*2+1,none⟩=some O.fv:=xa 1 R5;rw[xn];refine⟨va,vc,xa 0 R5,?_,v1⟩;rw[k1,e1];show some (Value.slice va O.fl.length vc)=some (.slice va (O.fl.map _).length vc);rw[List.length_map]
end
theorem Pk3.step {W wr V w5:World} {pb:Nat} {hv hv':Value} {l:List ObR} {o:ObR} (h:Pk3 W pb hv l wr) (hpb:pb < W.heap.size) (hf:W.frozen? ⟨pb,4,none⟩=false) (hB:L0d wr V) (hg:V.grownBy w5 hv.ownBlock) (hr:w5.ownsRow W.heap.size 90 2 hv' (l.length+1) (l.flatMap ObR.cells++o.cells)) :
  w5.cell? ⟨pb,4,none⟩=some hv/\w5.frozen? ⟨pb,4,none⟩=false/\pb < w5.heap.size/\Pk3 W pb hv' (l++[o]) (w5.setCell ⟨pb,4,none⟩ hv'):=by
 have s1:=h.size;have s2:=hB.size;have s3:=hg.size;have xa:∀k,k < W.heap.size->some k≠hv.ownBlock:=fun k hk e=>by have:=(h.row.lt k e.symm).1;omega
 have hb:∀k,k < W.heap.size->w5.heap[k]?=wr.heap[k]?:=fun k hk=>(hg.block k R5 (xa k hk)).trans (hB.block k R5)
 have hc:∀j,w5.cell? ⟨pb,j,none⟩=wr.cell? ⟨pb,j,none⟩:=fun j=>L0b (w:=wr) (a:=⟨pb,j,none⟩) (hb pb hpb)
 have hz:∀j,w5.frozen? ⟨pb,j,none⟩=wr.frozen? ⟨pb,j,none⟩:=fun j=>L0c (w:=wr) (a:=⟨pb,j,none⟩) (hb pb hpb)
 have y0:w5.cell? ⟨pb,4,none⟩=some hv:=(hc 4).trans h.c4;have y1:w5.frozen? ⟨pb,4,none⟩=false:=(hz 4).trans ((h.fz 4).trans hf);refine⟨y0,y1,by omega,hg.os.trans (hB.os.trans h.os),hg.tape.trans (hB.tape.trans h.tape),hg.output.trans (hB.output.trans h.output),by simp;omega,World.cell?_setCell_same _ _ _ y0,fun j hj=>?_,fun j=>?_,?_,fun k hk hkp=>?_⟩
 ·rw [show (w5.setCell ⟨pb,4,none⟩ hv').cell? ⟨pb,j,none⟩=w5.cell? ⟨pb,j,none⟩ from World.cell?_setCell_other _ _ _ _ (fun e=>hj (by injection e with e1 e2;exact e2.symm)),hc]
  exact h.cj j hj
 ·rw [World.frozen?_setCell,hz]
  exact h.fz j
 ·have:(w5.setCell ⟨pb,4,none⟩ hv').ownsRow W.heap.size 90 2 hv' (l.length+1) (l.flatMap ObR.cells++o.cells):=ownsRow_setCell_other hr (a:=⟨pb,4,none⟩) (fun e=>by have:=(hr.lt pb e).1;omega) _
  rw[List.length_append,List.flatMap_append];simpa using this
 ·rw [heap_setCell_other _ _ _ _ hkp,hb k hk]
  exact h.blk k hk hkp
def fN (own:Own) (g:PgR) (R:McR) (w:World) (e:Ending) (w':World):Prop :=
 ∃pb,e=.returned (zB pb)/\L0d w w'/\∀wb ab,wb < w.heap.size->ab < w.heap.size->own wb=none->own ab=none->¬g.blk wb->¬g.blk ab->a8K w' wb ab pb g (N8 R.abs)
theorem a7u:(Tryz.prog.info? 90).map (fun i=>(i.zero,i.size,i.bytes))=some (some (.agg #[zC 0,zD]),2,32):=by kernel_rfl
theorem a3g {own:Own} {mb kb S E:Nat} {g:PgR} {R:McR} {w W1 U4 w4 V wr:World} {al:List Nat} {av sv cv hv:Value} {ol:List ObR}
  (h:A4 w own mb g R) (hp:N3 g) (hi:C8 g R.abs) (hal:al=A0 R.abs) (p1:Pk1 w R al kb av sv ol S E W1) (hU4:L0d W1 U4) (hf:eM R.frs U4 (.returned cv) w4) (hV:L0d w4 V)
  (p3:Pk3 (V.alloc (.cells #[.slice g.a g.n g.c,J R.st,R.ov,cv,zD,zD] 107)) V.heap.size hv (M3 ol al) wr) :
  Calls Tryz.prog 119 #[zB V.heap.size,.func (.func 196) #[] #[zB kb]] wr fun e w'=>e=.returned (.tuple #[])/\fN own g R w (.returned (zB V.heap.size)) w':=by
 obtain⟨v,fl,yj,q1,q2,q3,q4,b4⟩:=hf
 cases yj;have ho:=hi.heapOk hp;have xe:al.length<=1000:=by rw [hal];exact hi.alive_len
 have ya:al.Nodup:=by rw [hal];exact hi.alive.nodup
 have xn:∀j,j∈al->j < R.obs.length:=fun j hj=>by
  rw[hal] at hj;have:=hi.alive.lt j hj;simpa [McR.abs] using this
 obtain⟨xd,hm,xl⟩:=a3h h p1 hU4 q1 q2 q3 q4 b4 hV ya xn p3;have s1:=p1.sE;have s2:=hU4.size;have s3:=b4.size;have s4:=hV.size;have xp:L0d w V:=A3 hV (A3 b4 (A3 hU4 p1.bel));have xs:L0d W1 V:=A3 hV (A3 b4 hU4);have xr:(V.alloc (.cells #[.slice g.a g.n g.c,J R.st,R.ov,cv,zD,zD] 107)).heap.size=V.heap.size+1:=by simp
 have xz:=p3.size;rw[xr] at xz;have s5:=xp.size;have xh:∀b,b < V.heap.size->wr.heap[b]?=V.heap[b]?:=fun b hb=>by
  rw[p3.blk b (by rw [xr];omega) R5];exact (L3a (L3b _ _) (L1c _) _).block b hb
 have xf:L0d w wr:=⟨p3.os.trans xp.os,p3.tape.trans xp.tape,p3.output.trans xp.output,by omega,fun k hk=>(xh k R5).trans (xp.block k hk)⟩
 -- frames and objects,without their places
 have yf:fl.map FrR.abs=R.frs.map FrR.abs:=by
  apply List.ext_getElem?
  intro i;rw[List.getElem?_map,List.getElem?_map]
  cases e:R.frs[i]? with
  | none=>rw [List.getElem?_eq_none (by rw [q2];exact List.getElem?_eq_none_iff.1 e)]
  | some f=>obtain ⟨lv,sv,k1,_⟩:=q3 i f e;rw [k1];first | rfl | done
 have yg:(M3 ol al).map ObR.abs=al.map fun j=>R.abs.obs.getD j (0,[]):=by
  unfold M3;rw[List.map_map];refine List.map_congr_left fun j hj=>?_
  obtain⟨o,ho⟩:∃o,R.obs[j]?=some o:=⟨_,L1b (xn j hj)⟩
  obtain⟨fv,h1,_⟩:=p1.new j o ho;show ObR.abs (a5w ol j)=(R.obs.map ObR.abs).getD j (0,[]);rw[eS h1,List.getD_eq_getElem?_getD,List.getElem?_map,ho];rfl
 have xj:∀q v l t,U0 ⟨R.st,R.ov,R.out,cv,fl,hv,M3 ol al,zD,[]⟩ q v l t->l.length<=1000/\∀x,x∈l->x.1=2->0<=x.2:=fun q v l t hq=>by
  have xx:∀(i:Nat) F,fl[i]?=some F->∃f,R.frs[i]?=some f/\F.loc=f.loc/\F.stk=f.stk:=fun i F hF=>by
   have hi:i < R.frs.length:=by rw [<- q2];exact (L1a.1 hF).1
   obtain⟨lv,sv,k1,_⟩:=q3 i _ (L1b hi);rw[hF] at k1
   cases k1;exact⟨_,L1b hi,rfl,rfl⟩
  have xq:∀f,f∈R.frs->∀x,x∈f.loc++f.stk->x.1=2->0<=x.2:=fun f hf x hx h2=>((hi.vals f.abs (List.mem_map.2 ⟨f,hf,rfl⟩) x hx).ref h2).1
  rcases hq with ⟨i,F,hF,rfl,rfl,rfl,rfl⟩ | ⟨i,F,hF,rfl,rfl,rfl,rfl⟩ | ⟨j,O,hO,rfl,rfl,rfl,rfl⟩
  ·obtain ⟨f,hf,e1,e2⟩:=xx i F hF
   have hm:=L2a hf;rw[e1];exact⟨(ho.fr f hm).1,fun x hx=>xq f hm x (by simp [hx])⟩
  ·obtain ⟨f,hf,e1,e2⟩:=xx i F hF
   have hm:=L2a hf;rw[e2];exact⟨(ho.fr f hm).2,fun x hx=>xq f hm x (by simp [hx])⟩
  ·unfold M3 at hO
   rw[List.getElem?_map] at hO;obtain⟨k,hk,rfl⟩:=Option.map_eq_some_iff.1 hO;obtain⟨o,xi⟩:∃o,R.obs[k]?=some o:=⟨_,L1b (xn k (L2a hk))⟩
   obtain⟨fv,h1,_⟩:=p1.new k o xi;rw[eS h1];have hm:=ho.refs o (L2a xi);exact⟨hm.2,fun x hx h2=>(hm.1 x hx h2).1⟩
 -- the list of what is alive is no part of it
 have xt:∀b,w.heap.size<=b->b < V.heap.size->(b < S\/E<=b)->b < W1.heap.size->xd b=none:=fun b h0 hb hz hw1=>by
  cases e:xd b with
  | none=>rfl
  | some t =>
   exfalso
   have ht:=(xl b t).1 e
   cases t with
   | mach=>have:b=V.heap.size:=ht;omega
   | out=>have:=h.lt b _ (h.out.2 b ht);omega
   | called=>have:=q1.lt b ht;omega
   | slots=>have:=p3.row.lt b ht;rw [xr] at this;omega
   | draws=>cases ht
   | loc i =>
    obtain⟨F,hF,xa⟩:=ht;have hi:i < R.frs.length:=by rw [<- q2];exact (L1a.1 hF).1
    obtain⟨lv,sv,k1,k2,_⟩:=q3 i _ (L1b hi);have xc:fl[i]?=some F:=hF;rw[xc] at k1
    cases k1;have:=k2.lt b xa;omega
   | stk i =>
    obtain⟨F,hF,xa⟩:=ht;have hi:i < R.frs.length:=by rw [<- q2];exact (L1a.1 hF).1
    obtain⟨lv,sv,k1,_,k3,_⟩:=q3 i _ (L1b hi);have xc:fl[i]?=some F:=hF;rw[xc] at k1
    cases k1;have:=k3.lt b xa;omega
   | fld j =>
    obtain⟨O,hO,xa⟩:=ht;have xg:(M3 ol al)[j]?=some O:=hO;unfold M3 at xg;rw[List.getElem?_map] at xg;obtain⟨k,hk,rfl⟩:=Option.map_eq_some_iff.1 xg;obtain⟨o,xi⟩:∃o,R.obs[k]?=some o:=⟨_,L1b (xn k (L2a hk))⟩
    obtain⟨fv,h1,h2,h3⟩:=p1.new k o xi;rw[eS h1] at xa;have:=(h2.lt b xa).1;have:=h3 b xa;omega
 have xw:=p1.later xs;have xo:rZ wr xd kb al:=fun U hU hblk=>by
  have xv:∀b,w.heap.size<=b->(b < S\/E<=b)->b < W1.heap.size->U.heap[b]?=V.heap[b]?:=fun b h0 hz hw1=>(hblk b R5 (xt b h0 R5 hz hw1)).trans (xh b R5)
  have yb:=p1.klt;obtain⟨a,c,e,yd,ye⟩:=Y8.of_owns xw.arow;have yc:U.cell? ⟨kb,0,none⟩=some av:=by
   rw[L0b (w:=V) (a:=⟨kb,0,none⟩) (xv kb p1.kge p1.kk yb)];exact xw.k0
  refine⟨⟨a,c,by rw [yc,e],fun h0=>?_⟩,by omega⟩;obtain⟨b,rfl,hb,hc⟩:=yd h0;have xa:av.ownBlock=some b:=by rw [e];rfl
  have yi:=(p1.ab b xa).1;have yh:=(p1.arow.lt b xa).2;refine⟨b,rfl,by omega,fun i x hx=>?_⟩;rw[L0b (w:=V) (a:=⟨b,i,none⟩) (xv b (ye b rfl).1 (L4a yi) yh)];exact hc i x hx
 refine (a5u hm al xe kb xo (by show fl.length<=1000;rw [q2];exact ho.frn) (by show (M3 ol al).length<=1000;unfold M3;rw [List.length_map];exact xe) xj).mono ?_;rintro e w' ⟨rfl,mv⟩;refine⟨rfl,V.heap.size,rfl,⟨mv.os.trans xf.os,mv.tape.trans xf.tape,mv.output.trans xf.output,L5a xf.size mv.size,fun k hk=>(mv.keep k R5 fun q v l t hq e=>?_).trans (xf.block k hk)⟩,fun wb ab h1 h2 o1 o2 b1 b2=>?_⟩
 ·have ht:=(xl k t).1 e
  rcases hq with ⟨i,F,hF,rfl,rfl,rfl,rfl⟩ | ⟨i,F,hF,rfl,rfl,rfl,rfl⟩ | ⟨j,O,hO,rfl,rfl,rfl,rfl⟩
  ·obtain ⟨F',xc,xa⟩:=ht
   have hi:i < R.frs.length:=by rw [<- q2];exact (L1a.1 xc).1
   obtain⟨lv,sv,k1,k2,_⟩:=q3 i _ (L1b hi);have xm:fl[i]?=some F':=xc;rw[xm] at k1
   cases k1;have:=k2.lt k xa;omega
  ·obtain ⟨F',xc,xa⟩:=ht
   have hi:i < R.frs.length:=by rw [<- q2];exact (L1a.1 xc).1
   obtain⟨lv,sv,k1,_,k3,_⟩:=q3 i _ (L1b hi);have xm:fl[i]?=some F':=xc;rw[xm] at k1
   cases k1;have:=k3.lt k xa;omega
  ·obtain ⟨O',xg,xa⟩:=ht
   have xk:(M3 ol al)[j]?=some O':=xg;unfold M3 at xk;rw[List.getElem?_map] at xk;obtain⟨x,hx,rfl⟩:=Option.map_eq_some_iff.1 xk;obtain⟨o,xi⟩:∃o,R.obs[x]?=some o:=⟨_,L1b (xn x (L2a hx))⟩
   obtain⟨fv,h1,h2,h3⟩:=p1.new x o xi;rw[eS h1] at xa;have:=(h2.lt k xa).1;omega
 ·have xb:∀b,b < w.heap.size->own b=none->xd b=none:=fun b hb hn=>by
   cases e:xd b with
   | none=>rfl
   | some t =>
    exfalso
    have ht:=(xl b t).1 e;have xu:t=.out:=by
     cases t with
     | mach=>have:b=V.heap.size:=ht;omega
     | out=>rfl
     | called=>have:=q1.lt b ht;omega
     | slots=>have:=p3.row.lt b ht;rw [xr] at this;omega
     | draws=>cases ht
     | loc i =>
      obtain⟨F,hF,xa⟩:=ht;have hi:i < R.frs.length:=by rw [<- q2];exact (L1a.1 hF).1
      obtain⟨lv,sv,k1,k2,_⟩:=q3 i _ (L1b hi);have xc:fl[i]?=some F:=hF;rw[xc] at k1
      cases k1;have:=k2.lt b xa;omega
     | stk i =>
      obtain⟨F,hF,xa⟩:=ht;have hi:i < R.frs.length:=by rw [<- q2];exact (L1a.1 hF).1
      obtain⟨lv,sv,k1,_,k3,_⟩:=q3 i _ (L1b hi);have xc:fl[i]?=some F:=hF;rw[xc] at k1
      cases k1;have:=k3.lt b xa;omega
     | fld j =>
      obtain⟨O,hO,xa⟩:=ht;have xg:(M3 ol al)[j]?=some O:=hO;unfold M3 at xg;rw[List.getElem?_map] at xg;obtain⟨x,hx,rfl⟩:=Option.map_eq_some_iff.1 xg;obtain⟨o,xi⟩:∃o,R.obs[x]?=some o:=⟨_,L1b (xn x (L2a hx))⟩
      obtain⟨fv,h1,h2,h3⟩:=p1.new x o xi;rw[eS h1] at xa;have:=(h2.lt b xa).1;omega
    subst xu;have:=h.out.2 b ht;rw[hn] at this
    cases this
  have xy:=mv;rw[hal] at xy;exact a5C hm (by rw [<- hal];exact mv) rfl rfl yf (by rw [<- hal];exact yg) (xb wb h1 o1) (xb ab h2 o2) b1 b2
end Go.Proofs.YtbkmgoffiigdbaaGreatDoor
