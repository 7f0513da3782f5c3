import Derived.Test.YtbkmgoffiigdbaaGreatDoorYCg
namespace Go.Proofs.YtbkmgoffiigdbaaGreatDoor
open Go.RowKit Go.Sort Go.Proofs.Tryz
set_option maxHeartbeats 4000000
set_option maxRecDepth 100000
theorem a6N:(prog.info? 86).map (fun i=>(i.zero,i.size,i.bytes))=some (some (.agg #[.int .i64 0,.int .i64 0,.slice none 0 0,.slice none 0 0]),4,64):=by kernel_rfl
theorem a5Z:(prog.info? 83).map (fun i=>(i.zero,i.size,i.bytes))=some (some (.slice none 0 0),1,24):=by kernel_rfl
theorem aA.trans {Y Y' Y'':PlR} {j n m:Nat} (h:aA Y Y' j n) (h':aA Y' Y'' j m):aA Y Y'' j (n+m) :=
 ⟨h'.ps.trans h.ps,h'.psv.trans h.psv,fun i hi=>(h'.l i hi).trans (h.l i hi),by rw [h'.lj,h.lj];omega⟩
theorem aA.refl (Y:PlR) (j:Nat):aA Y Y j 0:=⟨rfl,rfl,fun _ _=>rfl,rfl⟩
def gM (P:A3) (fl:List FrR) (i:Nat):Prop:=∀q f,i<=q->fl[q]?=some f->P (9,2*q)=cU 92 2 f.lv f.loc.length/\P (9,2*q+1)=cU 92 2 f.sv f.stk.length
theorem vS {P:A3} {w:World} {yb:Nat} {Y:PlR} {va:Option Addr} {vc:Nat} {fl:List FrR} (h:Sep P w) (hp:P (0,0)=H9 yb Y) (hL:J0 P Y) (h8:P (8,0)=mP 86 4 (.slice va fl.length vc) fl.length (fl.flatMap FrR.cells)) (hfl:gM P fl 0) (hcl:∀f,f∈fl->(∃a c,f.lv=.slice a f.loc.length c)/\(∃a c,f.sv=.slice a f.stk.length c)/\f.loc.length<=1000/\f.stk.length<=1000) (hn:fl.length<=1000) (hna:∀j,(Y.l j).length<=999000000) :
  Calls prog 28 #[.pointer (some ⟨yb,1,none⟩),.slice va fl.length vc] w fun e w'=>e=.returned (.tuple #[])/\∃P' Y',Sep P' w'/\P' (0,0)=H9 yb Y'/\J0 P' Y'/\aV P P' (fun q=>8<=q.1)/\(Y'.ps=Y.ps/\Y'.psv=Y.psv)/\(∀j,(Y'.l j).length<=(Y.l j).length+2*fl.length+1)/\Stp P w P' w':=by
 obtain⟨i3,zn,zg,yd,qh⟩:=info_parts a6N;obtain⟨i9,qc,zq,qb,zf⟩:=info_parts a5Z;have HI:=hid (And.intro zn (And.intro zg (And.intro yd qh)));have HN:=hid (And.intro qc (And.intro zq (And.intro qb zf)));have H0:Hid (∃P' Y',Sep P' w/\P' (0,0)=H9 yb Y'/\J0 P' Y'/\aV P P' (fun q=>q.1=9)/\gM P' fl 0/\aA Y Y' 3 (2*0)/\Stp P w P' w):=hid ⟨P,Y,h,hp,hL,fun _ _ _=>rfl,hfl,aA.refl _ _,Stp.refl _ _⟩
 have H8:=hid h8;have zo:=hid hcl;have yg:=hid hna;clear zn zg yd qh qc zq qb zf h hp hL h8 hfl hcl hna;go_enter func28,ntmps28;go_wp2_with fail;go_loopw [4] (fun vi wr=>∃i:Nat,i<=fl.length/\vi=.int .i64 i/\∃P' Y',Sep P' wr/\P' (0,0)=H9 yb Y'/\J0 P' Y'/\aV P P' (fun q=>q.1=9)/\gM P' fl i/\aA Y Y' 3 (2*i)/\Stp P w P' wr) (fun vi _=>fl.length - (intOf vi).toNat)
 case atStart=>exact ⟨0,by omega,rfl,H0.out⟩
 case round =>
  obtain⟨i,hi,rfl,P1,Y1,hS,xq,xw,xu,xg,xe,yt⟩:=hrel;have xc:wr.ownsRow 0 86 4 (.slice va fl.length vc) fl.length (fl.flatMap FrR.cells):=by
   have:=hS.F (8,0);rw[xu (8,0) (by right;right;decide) R3,H8.out] at this;exact this
  by_cases hlt:i < fl.length
  ·obtain ⟨f,hf⟩:∃f,fl[i]?=some f:=⟨_,L1b hlt⟩
   obtain⟨fa,fc,vk,kb,zm⟩:=gG FrR.cells_len xc;obtain⟨b,hb,_,vt,xo,za⟩:=zm R4
   cases vk;subst hb;have x2:=za i 2 f _ hf R3 rfl;have x3:=za i 3 f _ hf R3 rfl;obtain⟨⟨la,lc,vo⟩,⟨sa,sc,hsv⟩,hl1,hl2⟩:=zo.out f (L2a hf);have xp:=(xg i f (L1c _) hf).1;have yo:(i:Int) < (fl.length:Int):=by omega
   rw[vo] at x2 xp;rw[hsv] at x3;have qn:Hid (Calls prog 50 #[.pointer (some ⟨yb,1,none⟩),.slice la f.loc.length lc] wr fun e w'=>yQ P1 yb Y1 (fun q=>q=(9,2*i)) 3 1 wr e w'):=hid (mY hS xq xw xp R5 R4 (by have:=yg.out 3;rw [xe.lj];omega));have HS:=hid hS;have zr:=hid xu;have zs:=hid xg;have zz:=hid xe;have xy:=hid (And.intro x3 (And.intro hf (And.intro hsv hl2)))
   clear hS xq xw xu xg xe xp xc zm za xo x3;have vq:Hid (∀w2 P2 Y2,Sep P2 w2->P2 (0,0)=H9 yb Y2->J0 P2 Y2->aV P1 P2 (fun q=>q=(9,2*i))->aA Y1 Y2 3 1->Stp P1 wr P2 w2->w2.cell? ⟨b,i*4+3,none⟩=some (.slice sa f.stk.length sc)/\b < w2.heap.size/\Calls prog 50 #[.pointer (some ⟨yb,1,none⟩),.slice sa f.stk.length sc] w2 fun e w'=>e=.returned (.tuple #[])/\∃P' Y',Sep P' w'/\P' (0,0)=H9 yb Y'/\J0 P' Y'/\aV P P' (fun q=>q.1=9)/\gM P' fl (i+1)/\aA Y Y' 3 (2*(i+1))/\Stp P w P' w'):=hid fun w2 P2 Y2 xn yh yi xm xl xv=>by
    have h8:P2 (8,0)=mP 86 4 (.slice (some ⟨b,0,none⟩) fl.length vc) fl.length (fl.flatMap FrR.cells):=by
     rw[xm (8,0) (by right;right;decide) R5,zr.out (8,0) (by right;right;decide) R3];exact H8.out
    have xj:w2.ownsRow 0 86 4 (.slice (some ⟨b,0,none⟩) fl.length vc) fl.length (fl.flatMap FrR.cells):=by
     have:=xn.F (8,0);rw[h8] at this;exact this
    have yu:P2 (9,2*i+1)=cU 92 2 (.slice sa f.stk.length sc) f.stk.length:=by
     rw[xm (9,2*i+1) (by right;right;simp) R5,<- xy.out.2.2.1];exact (zs.out i f (L1c _) xy.out.2.1).2
    refine⟨?_,(xj.lt b rfl).2,(mY xn yh yi yu R5 (by have:=xy.out.2.2.2;omega) (by have:=yg.out 3;have:=xl.lj;have:=zz.out.lj;omega)).mono ?_⟩
    ·rw [xj.cellAt _ R4,<- xy.out.2.2.1]
     exact E0 FrR.cells_len xy.out.2.1 R3
    ·rintro e w3 ⟨rfl,P3,Y3,vd,qs,vf,yw,kf,vp,yd⟩
     refine⟨rfl,P3,Y3,vd,qs,vf,fun q hq hnq=>?_,fun q g hq hg=>?_,?_,(yt.trans xv).trans yd⟩
     ·rw [yw q hq (fun e=>hnq (by rw [e])),xm q hq (fun e=>hnq (by rw [e])),zr.out q hq hnq]
     ·rw [yw _ (by right;right;simp) (by intro e;simp only [Prod.mk.injEq] at e;omega),yw _ (by right;right;simp) (by intro e;simp only [Prod.mk.injEq] at e;omega),xm _ (by right;right;simp) (by intro e;simp only [Prod.mk.injEq] at e;omega),xm _ (by right;right;simp) (by intro e;simp only [Prod.mk.injEq] at e;omega)]
      exact zs.out q g R4 hg
     ·have:=(zz.out.trans xl).trans vp
      rwa [show 2*i+1+1=2*(i+1) by omega] at this
   go_wp2_with (first | (go_at_call_of 50 (Value.slice la f.loc.length lc);refine qn.out.mono ?_;rintro e w2 ⟨rfl,P2,Y2,xn,yh,yi,xm,qp,xl,xv⟩;obtain ⟨x3,kd,xk⟩:=vq.out w2 P2 Y2 xn yh yi xm xl xv;have xx:=hid xk;clear xk xn yh yi xm qp xl) | (go_at_call_of 50 (Value.slice sa f.stk.length sc);refine xx.out.mono ?_;rintro e w3 ⟨rfl,hQ⟩;have HQ:=hid hQ;clear hQ))
   go_roundw
   case rel=>exact ⟨i+1,by omega,by go_num,HQ.out⟩
   case measure=>simp [intOf];omega
  ·obtain rfl:i=fl.length:=by omega
   have yq:¬(fl.length:Int) < (fl.length:Int):=by omega
   have xr:H7 wr yb Y1:=by have:=hS.F (0,0);rw [xq] at this;exact this
   have yj:P1 (8,0)=mP 86 4 (.slice va fl.length vc) fl.length (fl.flatMap FrR.cells):=(xu (8,0) (by right;right;decide) R3).trans H8.out;have hy:=xr.me;have hc:=xr.c 4 R3 R3;have hz:=xr.fz 4;have ha:wr.ownsRow 0 83 1 (Y1.v 4) (Y1.l 4).length ((Y1.l 4).map nH):=xr.row 4 R3 R3;have qx:=xr.ne 4 R3 R3;have zj:(Value.slice va fl.length vc).ownBlock≠some yb:=fun e=>by
    have:=hS.dis (8,0) (0,0) yb (by rw [yj];exact e) (by rw [xq];exact L4a rfl);simp at this
   have qq:(Y1.l 4).length<=999000000:=by rw [xe.l 4 R3];exact yg.out 4
   have yl:Hid (∀w',aU 86 4 66 83 yb 4 (Y1.l 4).length (zfr (Y1.l 4).length) (Y1.v 4) (.slice va fl.length vc) ((Y1.l 4).map nH) wr w'->∃P' Y',Sep P' w'/\P' (0,0)=H9 yb Y'/\J0 P' Y'/\aV P P' (fun q=>8<=q.1)/\(Y'.ps=Y.ps/\Y'.psv=Y.psv)/\(∀j,(Y'.l j).length<=(Y.l j).length+2*fl.length+1)/\Stp P w P' w'):=hid fun w' hb=>by
    have vw:=hS.swap (8,0) (cU 86 4 (.slice va fl.length vc) fl.length) ⟨_,xc⟩ (fun b hb=>by rw [yj];exact hb);obtain⟨nb,vs,qg,hl,xn,xv⟩:=vw.book (j:=4) (by rw [A3.put_ne _ R3];exact xq) (A3.put_same _ _ _) R3 R3 R3 R3 R3 hb (4+2,(Y1.l 4).length);have qw:J0 (P1.put (8,0) (cU 86 4 (.slice va fl.length vc) fl.length)) Y1:=⟨xw.1,fun j i nb h1 h5 hq=>by rw [A3.put_ne _ (by intro e;simp only [Prod.mk.injEq] at e;omega)];exact xw.2 j i nb h1 h5 hq⟩
    refine⟨_,Y1.upd 4 qg nb,xn,zN _ R3,qw.upd R3 R3 R3 R3 ⟨fun e=>by omega,fun e=>by omega,fun _=>⟨vs,hl,rfl⟩,fun e=>by omega⟩,fun q hq hnq=>?_,⟨xe.ps,xe.psv⟩,fun j=>?_,(yt.trans (Stp.swap (8,0) _ (fun b hb=>by rw [yj];exact hb))).trans xv⟩
    ·rw [iG R3 R3 q hq (fun e=>hnq (by rw [e];decide)),A3.put_ne _ (fun e=>hnq (by rw [e];decide)),xu q hq (fun e=>hnq R4)]
    ·have xl:=fB Y1 4 qg nb
     by_cases e4:j=4
     ·subst e4
      rw[xl.lj,xe.l 4 R3];omega
     ·rw [xl.l j e4]
      by_cases e3:j=3
      ·subst e3;rw [xe.lj];omega
      ·rw [xe.l j e3];omega
   have yr:=hid xc;have HV:=hid xc;have HA:=hid ha;clear hS xq xw xu xg xe xc ha xr yj H0 H8 zo yg;generalize (Y1.v 4)=av at *
   generalize (Y1.l 4).map nH=al at *
   generalize (Y1.l 4).length=na at *
   generalize fl.flatMap FrR.cells=xs at *
   obtain⟨w1,qt⟩:∃w1,w1=wr:=⟨_,rfl⟩
   subst qt;have zk:fl.length<=1000000:=by omega
   have ka:Hid (fl.length<=1000):=hid hn;clear hn hlt hi yq yt;generalize hnn:fl.length=n at *
   have hn:=zk;have ys:=hid hnn;clear hnn zk;obtain⟨aa,yz,ve,_⟩:=B4 HA.out;subst ve;have vz:IntKind.i64.wrap (-7070 - (na:Int)) = -7070 - (na:Int):=Go.IntWalk.i64_in _ R4;have vm:¬(n:Int) < (n:Int):=by omega
   go_wp2_with fail;generalize hqV:(w1.alloc (Obj.cells #[.int .i64 (-7070 - (na:Int)),.int .i64 0,.slice none 0 0,.slice none 0 0] 86))=V at *
   have q0:V.cell? ⟨w1.heap.size,0,none⟩=some (.int .i64 (-7070 - (na:Int))):=by subst hqV;go_simp
   have q1:V.cell? ⟨w1.heap.size,1,none⟩=some (.int .i64 0):=by subst hqV;go_simp
   have q2:V.cell? ⟨w1.heap.size,2,none⟩=some (.slice none 0 0):=by subst hqV;go_simp
   have q3:V.cell? ⟨w1.heap.size,3,none⟩=some (.slice none 0 0):=by subst hqV;go_simp
   have zd:L0d w1 V:=by subst hqV;exact L3a (L3b _ _) (L1c _) _
   have zi:=G9 HV.out zd;have qa:V.heap.size=w1.heap.size+1:=by subst hqV;simp
   have yk:=hid zd;clear hqV;obtain⟨zb,zt⟩:∃zb,zb=w1.heap.size:=⟨_,rfl⟩
   rw[<- zt] at q0 q1 q2 q3 qa ⊢;have xa:zb < V.heap.size:=by omega
   have xd:(Value.slice va n vc).ownBlock≠some zb:=fun e=>by have:=(HV.out.lt zb e).2;omega
   have S0:Hid (Stt V V 0 86 4 (.slice va n vc) n xs [.int .i64 (-7070 - (na:Int)),.int .i64 0,.slice none 0 0,.slice none 0 0] [] [(.slice va n vc,n)]):=hid (Stt.start zi);have vl:([.int .i64 (-7070 - (na:Int)),.int .i64 0,.slice none 0 0,.slice none 0 0]:List Value).length=4:=rfl;have ya:Hid (∀u,u∈([.int .i64 (-7070 - (na:Int)),.int .i64 0,.slice none 0 0,.slice none 0 0]:List Value)->u.oneCell'=true):=hid fun u hu=>by simp at hu;rcases hu with rfl | rfl | rfl <;> rfl
   have HT:Hid (TI 66 86 4):=hid ⟨i3,_,_,underlying66,HI.out.1,HI.out.2.1,HI.out.2.2.1,HI.out.2.2.2,rfl,by decide,by decide⟩;have HC:Hid (∀u lits res,Stt V u 0 86 4 (.slice va n vc) n xs [.int .i64 (-7070 - (na:Int)),.int .i64 0,.slice none 0 0,.slice none 0 0] lits res->u.cell? ⟨zb,0,none⟩=some (.int .i64 (-7070 - (na:Int)))/\u.cell? ⟨zb,1,none⟩=some (.int .i64 0)/\u.cell? ⟨zb,2,none⟩=some (.slice none 0 0)/\u.cell? ⟨zb,3,none⟩=some (.slice none 0 0)):=hid fun u lits res h=>⟨h.z xa xd q0,h.z xa xd q1,h.z xa xd q2,h.z xa xd q3⟩
   have yc:Hid (∀u lits res (o:Obj),Stt V u 0 86 4 (.slice va n vc) n xs [.int .i64 (-7070 - (na:Int)),.int .i64 0,.slice none 0 0,.slice none 0 0] lits res->(u.alloc o).cell? ⟨zb,0,none⟩=some (.int .i64 (-7070 - (na:Int)))/\(u.alloc o).cell? ⟨zb,1,none⟩=some (.int .i64 0)/\(u.alloc o).cell? ⟨zb,2,none⟩=some (.slice none 0 0)/\(u.alloc o).cell? ⟨zb,3,none⟩=some (.slice none 0 0)):=hid fun u lits res o h=>⟨(L0b (a:=⟨zb,0,none⟩) (Below.heap_alloc _ _ _ (L0a xa h.size))).trans (h.z xa xd q0),(L0b (a:=⟨zb,1,none⟩) (Below.heap_alloc _ _ _ (L0a xa h.size))).trans (h.z xa xd q1),(L0b (a:=⟨zb,2,none⟩) (Below.heap_alloc _ _ _ (L0a xa h.size))).trans (h.z xa xd q2),(L0b (a:=⟨zb,3,none⟩) (Below.heap_alloc _ _ _ (L0a xa h.size))).trans (h.z xa xd q3)⟩
   have HQ:Hid (V.cell? ⟨zb,0,none⟩=some (.int .i64 (-7070 - (na:Int)))/\V.cell? ⟨zb,1,none⟩=some (.int .i64 0)/\V.cell? ⟨zb,2,none⟩=some (.slice none 0 0)/\V.cell? ⟨zb,3,none⟩=some (.slice none 0 0)):=hid ⟨q0,q1,q2,q3⟩;clear q0 q1 q2 q3 zi zd qa zt yr;refine wp_region_held_drew (S:=fun u=>u.cell? ⟨zb,0,none⟩=some (.int .i64 (-7070 - (na:Int)))/\u.cell? ⟨zb,1,none⟩=some (.int .i64 0)/\u.cell? ⟨zb,2,none⟩=some (.slice none 0 0)/\u.cell? ⟨zb,3,none⟩=some (.slice none 0 0)) Q7 (HC.out _ _ _ S0.out.drew) (fun hHeld=>?_)
   have zh:=hid S0.out.drew;generalize V.drew=U at *
   refine TW 0 ⟨some 36,.move (.tmp 1),66,"book.go:97",#[],none⟩ ?_
   refine TW 1 ⟨some 37,.move (.tmp 1),66,"book.go:97",#[],none⟩ ?_
   refine TW 2 ⟨some 38,.load 86 (.tmp 5),86,"book.go:97",#[],none⟩ ?_
   refine TW 5 ⟨some 41,.move (.tmp 1),66,"book.go:97",#[],none⟩ ?_
   refine TW 6 ⟨some 42,.load 86 (.tmp 5),86,"book.go:97",#[],none⟩ ?_
   refine TW 7 ⟨some 43,.load 86 (.tmp 5),86,"book.go:97",#[],none⟩ ?_
   refine TW 10 ⟨some 46,.move (.tmp 1),66,"book.go:97",#[],none⟩ ?_
   refine TW 11 ⟨some 47,.load 86 (.tmp 5),86,"book.go:97",#[],none⟩ ?_
   refine TW 12 ⟨some 48,.load 86 (.tmp 5),86,"book.go:97",#[],none⟩ ?_
   refine TW 13 ⟨some 49,.load 86 (.tmp 5),86,"book.go:97",#[],none⟩ ?_
   clear hHeld
   refine a2f 36 5 6 83 "book.go:97" (fun u lits res h => ⟨HC.out _ _ _ h, fun o => yc.out _ _ _ o h⟩) HT.out hn vl ya.out zh.out ?_
   intro x1 x2 x3 a1 a2 a3 c1 c2 c3 lits ww hS;simp only[Act.put,Nat.reduceAdd,T1,T2,T3];clear ya HT HC yc zh S0;have HS:=hid hS;have yd:=hS.size;obtain⟨vs,nb,W4,zy,qe,SW,qm,yx,qf,zc,qi,vg,zl,vr,yv,yn⟩:=uU (s:=66) (zv:=zfr na) hS;rw[<- zy,<- qe];clear hS zy qe;go_wp2_with fail;go_loopw [7] (fun vi wr=>∃k:Nat,k<=4/\vi=.int .i64 k/\Wr W4 wr 86 4 (zfr na) vs k 0) (fun vi _=>4 - (intOf vi).toNat)
   case atStart=>exact ⟨0,by omega,rfl,SW.out⟩
   case round =>
    obtain⟨k,hk,rfl,xb⟩:=hrel;by_cases hlt:k < 4
    ·obtain ⟨p,hp⟩:∃p,vs[k]?=some p:=⟨_,L1b R4⟩
     have yo:(k:Int) < 4:=by omega
     have ze:=hid xb;have ye:=L2a hp;obtain⟨pa,pc,qy,vy,_⟩:=(xb.has p ye).form;have ke:=vg.out p ye;have xi:Hid (∀u:World,(∀b,(∀p,p∈vs->p.1.ownBlock≠some b)->u.heap[b]?=W4.heap[b]?)->u.cell? ⟨nb,k,none⟩=some p.1/\nb < u.heap.size):=hid fun u hu=>by
      have h1:=(hu nb qf.out).trans yx.out;refine⟨?_,(L2b.1 h1).1⟩;simp only[World.cell?,h1];simp[List.getElem?_map,hp]
     clear xb;go_wp2_with fail;go_loopw [8] (fun vi wr=>∃i:Nat,i<=p.2/\vi=.int .i64 i/\Wr W4 wr 86 4 (zfr na) vs k (i*4)) (fun vi _=>p.2 - (intOf vi).toNat)
     case atStart=>exact ⟨0,by omega,rfl,by rw [Nat.zero_mul];exact ze.out⟩
     case round =>
      obtain⟨i,hi,rfl,xb⟩:=hrel;have cn:=(xi.out wr xb.keep).1;have vu:=(xi.out wr xb.keep).2;have qd:=hid xb;by_cases hli:i < p.2
      ·obtain ⟨kc,qk,yp,vj,vv⟩:=(xb.has p ye).form
       obtain⟨b,rfl,xt,vt,xo,yf⟩:=vv R4;have qz:b≠nb:=fun e=>qf.out p ye (by rw [xt,e])
       have xf:b≠zb:=fun e=>zc.out zb xa xd p ye (by rw [xt,e])
       have xh:=(xb.keep zb (zc.out zb xa xd)).trans (qi.out zb xa xd);have d0:wr.cell? ⟨zb,0,none⟩=some (.int .i64 (-7070 - (na:Int))):=(L0b (a:=⟨zb,0,none⟩) xh).trans HQ.out.1;have d1:wr.cell? ⟨zb,1,none⟩=some (.int .i64 0):=(L0b (a:=⟨zb,1,none⟩) xh).trans HQ.out.2.1;have d2:wr.cell? ⟨zb,2,none⟩=some (.slice none 0 0):=(L0b (a:=⟨zb,2,none⟩) xh).trans HQ.out.2.2.1
       have d3:wr.cell? ⟨zb,3,none⟩=some (.slice none 0 0):=(L0b (a:=⟨zb,3,none⟩) xh).trans HQ.out.2.2.2;obtain⟨g0,zx⟩:=yf (i*4) R4;have ql:=xo (i*4);obtain⟨g1,zw⟩:=yf (i*4+1) R4;have qr:=xo (i*4+1);obtain⟨g2,zp⟩:=yf (i*4+2) R4;have qo:=xo (i*4+2);obtain⟨g3,qj⟩:=yf (i*4+3) R4;have vh:=xo (i*4+3);rw[yp] at cn;have vn:(i:Int) < (p.2:Int):=by omega
       clear xb xo yf;go_wp2_with fail;refine wp_region_held_drew (S:=fun u=>u.cell? ⟨nb,k,none⟩=some (.slice (some ⟨b,0,none⟩) p.2 qk)/\u.cell? ⟨zb,0,none⟩=some (.int .i64 (-7070 - (na:Int)))/\u.cell? ⟨zb,1,none⟩=some (.int .i64 0)/\u.cell? ⟨zb,2,none⟩=some (.slice none 0 0)/\u.cell? ⟨zb,3,none⟩=some (.slice none 0 0)) Q7 ⟨cn,d0,d1,d2,d3⟩ (fun hHeld=>?_)
       refine TW 0 ⟨some 68,.move (.tmp 6),83,"book.go:100",#[],none⟩ ?_
       refine TW 1 ⟨some 69,.move (.tmp 7),3,"book.go:100",#[],none⟩ ?_
       refine TW 2 ⟨some 70,.indexAddr 83 (.tmp 68) (.tmp 69),0,"book.go:100",#[⟨0,.data⟩,⟨1,.data⟩],none⟩ ?_
       refine TW 3 ⟨some 71,.load 66 (.tmp 70),66,"book.go:100",#[⟨2,.data⟩],none⟩ ?_
       refine TW 4 ⟨some 72,.move (.tmp 8),3,"book.go:100",#[],none⟩ ?_
       refine TW 5 ⟨some 73,.load 86 (.tmp 5),86,"book.go:100",#[],none⟩ ?_
       refine TW 6 ⟨some 74,.indexAddr 66 (.tmp 71) (.tmp 72),0,"book.go:100",#[⟨3,.data⟩,⟨4,.data⟩,⟨0,.phase⟩,⟨1,.phase⟩,⟨2,.phase⟩,⟨3,.phase⟩,⟨4,.phase⟩,⟨5,.phase⟩],none⟩ ?_
       clear hHeld
       refine TO 7 ⟨none,.store 86 (.tmp 74) (.tmp 73),0,"book.go:100",#[⟨6,.data⟩,⟨5,.data⟩,⟨0,.phase⟩,⟨1,.phase⟩,⟨2,.phase⟩,⟨3,.phase⟩,⟨4,.phase⟩,⟨5,.phase⟩],none⟩ fun K hK => ?_
       go_simp
       refine TG hK ⟨show ((((wr.setCell ⟨b,i*4,none⟩ (.int .i64 (-7070 - (na:Int)))).setCell ⟨b,i*4+1,none⟩ (.int .i64 0)).setCell ⟨b,i*4+2,none⟩ (.slice none 0 0)).setCell ⟨b,i*4+3,none⟩ (.slice none 0 0)).cell? ⟨nb,k,none⟩=_ from by (repeat rw [World.cell?_setCell_far _ _ _ _ (show b≠nb from qz)]);exact cn,show ((((wr.setCell ⟨b,i*4,none⟩ (.int .i64 (-7070 - (na:Int)))).setCell ⟨b,i*4+1,none⟩ (.int .i64 0)).setCell ⟨b,i*4+2,none⟩ (.slice none 0 0)).setCell ⟨b,i*4+3,none⟩ (.slice none 0 0)).cell? ⟨zb,0,none⟩=_ from by (repeat rw [World.cell?_setCell_far _ _ _ _ (show b≠zb from xf)]);exact d0,show ((((wr.setCell ⟨b,i*4,none⟩ (.int .i64 (-7070 - (na:Int)))).setCell ⟨b,i*4+1,none⟩ (.int .i64 0)).setCell ⟨b,i*4+2,none⟩ (.slice none 0 0)).setCell ⟨b,i*4+3,none⟩ (.slice none 0 0)).cell? ⟨zb,1,none⟩=_ from by (repeat rw [World.cell?_setCell_far _ _ _ _ (show b≠zb from xf)]);exact d1,show ((((wr.setCell ⟨b,i*4,none⟩ (.int .i64 (-7070 - (na:Int)))).setCell ⟨b,i*4+1,none⟩ (.int .i64 0)).setCell ⟨b,i*4+2,none⟩ (.slice none 0 0)).setCell ⟨b,i*4+3,none⟩ (.slice none 0 0)).cell? ⟨zb,2,none⟩=_ from by (repeat rw [World.cell?_setCell_far _ _ _ _ (show b≠zb from xf)]);exact d2,show ((((wr.setCell ⟨b,i*4,none⟩ (.int .i64 (-7070 - (na:Int)))).setCell ⟨b,i*4+1,none⟩ (.int .i64 0)).setCell ⟨b,i*4+2,none⟩ (.slice none 0 0)).setCell ⟨b,i*4+3,none⟩ (.slice none 0 0)).cell? ⟨zb,3,none⟩=_ from by (repeat rw [World.cell?_setCell_far _ _ _ _ (show b≠zb from xf)]);exact d3⟩ fun hHeld=>?_
       clear hK K;clear hHeld;refine wpAnyH_done Q7 ?_ _;have HX:Hid (Wr W4 ((((wr.setCell ⟨b,i*4,none⟩ (.int .i64 (-7070 - (na:Int)))).setCell ⟨b,i*4+1,none⟩ (.int .i64 0)).setCell ⟨b,i*4+2,none⟩ (.slice none 0 0)).setCell ⟨b,i*4+3,none⟩ (.slice none 0 0)).drew 86 4 (zfr na) vs k ((i+1)*4)):=hid (by
        have z0:(zfr na) (i*4)=.int .i64 (-7070 - (na:Int)):=by unfold zfr;rw [if_pos R4]
        have z1:(zfr na) (i*4+1)=.int .i64 0:=by unfold zfr;rw [if_neg R4,if_pos R4]
        have z2:(zfr na) (i*4+2)=.slice none 0 0:=by unfold zfr;rw [if_neg R4,if_neg R4]
        have z3:(zfr na) (i*4+3)=.slice none 0 0:=by unfold zfr;rw [if_neg R4,if_neg R4]
        have s0:=qd.out;have s1:=s0.next hp xt ⟨g0,zx⟩;rw[z0] at s1;have s2:=s1.next hp xt ⟨g1,by rw [World.cell?_setCell_other _ _ _ _ R5];exact zw⟩;rw[z1] at s2;have s3:=s2.next hp xt ⟨g2,by rw [World.cell?_setCell_other _ _ _ _ R5];rw [World.cell?_setCell_other _ _ _ _ R5];exact zp⟩;rw[z2] at s3;have s4:=s3.next hp xt ⟨g3,by rw [World.cell?_setCell_other _ _ _ _ R5];rw [World.cell?_setCell_other _ _ _ _ R5];rw [World.cell?_setCell_other _ _ _ _ R5];exact qj⟩
        rw[z3] at s4;rw[show (i+1)*4=i*4+1+1+1+1 by omega];exact s4.drew)
       generalize ((((wr.setCell ⟨b,i*4,none⟩ (.int .i64 (-7070 - (na:Int)))).setCell ⟨b,i*4+1,none⟩ (.int .i64 0)).setCell ⟨b,i*4+2,none⟩ (.slice none 0 0)).setCell ⟨b,i*4+3,none⟩ (.slice none 0 0)).drew=Y at *
       clear cn d0 d1 d2 d3 zx ql zw qr zp qo qj vh;go_wp2_with fail;go_roundw
       case rel=>exact ⟨i+1,by omega,by go_num,HX.out⟩
       case measure=>simp [intOf];omega
      ·obtain rfl:i=p.2:=by omega
       have yq:¬(p.2:Int) < (p.2:Int):=by omega
       rw[qy] at cn;clear xb;go_wp2_with fail;go_roundw
       case rel=>exact ⟨k+1,by omega,by go_num,Wr.done qd.out hp⟩
       case measure=>simp [intOf];omega
    ·obtain rfl:k=4:=by omega
     have ze:=hid xb;have ym:∀b,b < w1.heap.size->(Value.slice va n vc).ownBlock≠some b->wr.heap[b]?=w1.heap[b]?:=fun b hb hn=>by
      have zu:b < V.heap.size:=by have:=yk.out.size;omega
      rw[xb.keep b (zc.out b zu hn),qi.out b zu hn];exact yk.out.block b hb
     have yy:=ym yb hy zj;have y1:wr.cell? ⟨yb,4,none⟩=some (.slice aa na yz):=(L0b (a:=⟨yb,4,none⟩) yy).trans hc;have y2:wr.frozen? ⟨yb,4,none⟩=false:=(L0c (a:=⟨yb,4,none⟩) yy).trans hz;have vx:yb < wr.heap.size:=by have:=xb.size;have:=yv.out;have:=yk.out.size;omega
     have qv:Hid (wr.ownsRow 0 83 1 (.slice aa na yz) na al):=hid (A6 HA.out fun b hb=>ym b (HA.out.lt b hb).2 fun e=>G8 HA.out HV.out R3 b hb e);have qu:=hid (HS.out.rebase yk.out HV.out);have yq:¬(4:Int) < 4:=by decide
     clear xb yy ym;go_wp2_with (at_builtin;go_must (refine A9 _ rfl (.tmp 79) (.tmp 81) 32 rfl 0 83 i9 _ 1 24 underlying32 HN.out.1 HN.out.2.1 HN.out.2.2.1 HN.out.2.2.2 rfl R3 (.slice aa na yz) na al rfl (qv.out.alloc _) (some ⟨wr.heap.size,0,none⟩) 1 1 [.slice (some ⟨nb,0,none⟩) 4 4] rfl rfl (fun _=>⟨_,rfl,World.news_of_block (cs:=#[.slice (some ⟨nb,0,none⟩) 4 4]) (t:=83) (fr:=(0,0)) (B1 (by first | rfl | simp))⟩) (by intro u hu;simp at hu;subst hu;rfl) Q5 R4 R5 ?_))
     intro v5 w5 hown5 hgrow5 hat5;obtain⟨a5,c5,vb,_⟩:=B4 hown5;subst vb;obtain⟨e1,e2,e3,e4,e5,e6,e7⟩:=gZ (te:=66) (zv:=zfr na) qu.out HV.out vr.out (by rw [<- zl.out,yn.out];exact ze.out) HA.out R3 hy qx zj hgrow5 hown5 (fun g hg=>by rcases hat5 g hg with e | e;exact L4a e;exact L4b (by rw [e];simp)) ⟨_,hc⟩;rw[hc] at e1;rw[hz] at e2;rw[<- zl.out] at e4 e7;have HE:=hid (And.intro e4 (And.intro e5 (And.intro e6 e7)))
     clear hown5 hgrow5 hat5 e4 e5 e6 e7;go_wp2_with fail;go_end0
     have xz:=yl.out _ ⟨nb,vs,_,qm,HE.out.1,HE.out.2.1,HE.out.2.2.1,HE.out.2.2.2⟩;rw[<- ys.out] at xz;exact⟨rfl,xz⟩
end Go.Proofs.YtbkmgoffiigdbaaGreatDoor
