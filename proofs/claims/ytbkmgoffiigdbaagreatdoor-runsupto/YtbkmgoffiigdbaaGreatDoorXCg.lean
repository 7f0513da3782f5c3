import Derived.Test.YtbkmgoffiigdbaaGreatDoorXCe
namespace Go.Proofs.YtbkmgoffiigdbaaGreatDoor
open Go.RowKit Go.Sort Go.Proofs.Tryz
set_option maxHeartbeats 4000000
set_option maxRecDepth 100000
theorem a6O:(prog.info? 92).map (fun i=>(i.zero,i.size,i.bytes))=some (some (.agg #[.int .u8 0,.int .i64 0]),2,16):=by kernel_rfl
theorem a5X:(prog.info? 132).map (fun i=>(i.zero,i.size,i.bytes))=some (some (.slice none 0 0),1,24):=by kernel_rfl
theorem tE (i:Nat) (W:World) (hi:i<=1000000000):Calls prog 53 #[.int .i64 (i:Int)] W fun e w'=>e=.returned (.agg #[.int .u8 9,.int .i64 (-7070 - (i:Int))])/\Below W.heap.size W w':=by
 have xa:IntKind.i64.wrap (-7070 - (i:Int)) = -7070 - (i:Int):=Go.IntWalk.i64_in _ R4;go_enter func53,ntmps53;go_wp2_with fail;refine bodyPost_ret (v:=.agg #[.int .u8 9,.int .i64 (-7070 - (i:Int))]) (by simp [results,results53,go_sem]) rfl ⟨rfl,by repeat (first | exact Below.refl _ _ | refine Below.setCell ?_ Q1 _ | refine Below.alloc ?_ Q1 _)⟩
def dU (na:Nat) (off:Nat):Value:=if off % 2=0 then .int .u8 9 else .int .i64 (-7070 - (na:Int))
theorem a3N {w:World} {yb na n:Nat} {av v:Value} {al xs:List Value} (hy:yb < w.heap.size) (hc:w.cell? ⟨yb,3,none⟩=some av) (hz:w.frozen? ⟨yb,3,none⟩=false)
  (ha:w.ownsRow 0 132 1 av na al) (hv:w.ownsRow 0 92 2 v n xs) (hna:na<=1000000000) (hn:n<=1000000) (hy1:av.ownBlock≠some yb) (hy2:v.ownBlock≠some yb) :
  Calls prog 50 #[.pointer (some ⟨yb,1,none⟩),v] w fun e w'=>e=.returned (.tuple #[])/\aZ 92 2 84 132 yb 3 na (dU na) av v al w w':=by
 obtain⟨aa,xm,zf,_⟩:=B4 ha;subst zf;obtain⟨va,vc,zl,zs⟩:=B4 hv;subst zl;obtain⟨i3,yf,yr,xv,yi⟩:=info_parts a6O;obtain⟨i9,yk,yn,ya,yp⟩:=info_parts a5X;have HI:=hid (And.intro yf (And.intro yr (And.intro xv yi)));have HN:=hid (And.intro yk (And.intro yn (And.intro ya yp)));have HA:=hid ha;have HV:=hid hv;have yv:Hid (∀U,Calls prog 53 #[.int .i64 (na:Int)] U fun e w'=>e=.returned (.agg #[.int .u8 9,.int .i64 (-7070 - (na:Int))])/\Below U.heap.size U w'):=hid fun U=>tE na U hna
 clear yf yr xv yi yk yn ya yp ha hv;go_enter func50,ntmps50;go_wp2_with (go_at_call 53;refine (yv.out _).mono ?_;rintro e w0 ⟨rfl,xl⟩)
 have q0:(w0.alloc (Obj.cells #[.int .u8 9,.int .i64 (-7070 - (na:Int))] 92)).cell? ⟨w0.heap.size,0,none⟩=some (.int .u8 9):=by go_simp
 have q1:(w0.alloc (Obj.cells #[.int .u8 9,.int .i64 (-7070 - (na:Int))] 92)).cell? ⟨w0.heap.size,1,none⟩=some (.int .i64 (-7070 - (na:Int))):=by go_simp
 have xn:Below w.heap.size w (w0.alloc (Obj.cells #[.int .u8 9,.int .i64 (-7070 - (na:Int))] 92)):=Below.alloc xl xl.size _;have yg:=H6 HV.out xn;have zn:w.heap.size<=w0.heap.size:=xl.size;have yt:(w0.alloc (Obj.cells #[.int .u8 9,.int .i64 (-7070 - (na:Int))] 92)).heap.size=w0.heap.size+1:=by simp
 have xk:=hid xn;generalize (w0.alloc (Obj.cells #[.int .u8 9,.int .i64 (-7070 - (na:Int))] 92))=V at *
 generalize hzb:w0.heap.size=zb at *
 have xb:zb < V.heap.size:=by omega
 have xd:(Value.slice va n vc).ownBlock≠some zb:=fun e=>by have:=(HV.out.lt zb e).2;omega
 have S0:Hid (Stt V V 0 92 2 (.slice va n vc) n xs [.int .u8 9,.int .i64 (-7070 - (na:Int))] [] [(.slice va n vc,n)]):=hid (Stt.start yg);have zg:([.int .u8 9,.int .i64 (-7070 - (na:Int))]:List Value).length=2:=rfl;have xf:Hid (∀u,u∈([.int .u8 9,.int .i64 (-7070 - (na:Int))]:List Value)->u.oneCell'=true):=hid fun u hu=>by simp at hu;rcases hu with rfl | rfl <;> rfl
 have HT:Hid (TI 84 92 2):=hid ⟨i3,_,_,underlying84,HI.out.1,HI.out.2.1,HI.out.2.2.1,HI.out.2.2.2,rfl,by decide,by decide⟩;have HC:Hid (∀u lits res,Stt V u 0 92 2 (.slice va n vc) n xs [.int .u8 9,.int .i64 (-7070 - (na:Int))] lits res->u.cell? ⟨zb,0,none⟩=some (.int .u8 9)/\u.cell? ⟨zb,1,none⟩=some (.int .i64 (-7070 - (na:Int)))):=hid fun u lits res h=>⟨h.z xb xd q0,h.z xb xd q1⟩
 have xi:Hid (∀u lits res (o:Obj),Stt V u 0 92 2 (.slice va n vc) n xs [.int .u8 9,.int .i64 (-7070 - (na:Int))] lits res->(u.alloc o).cell? ⟨zb,0,none⟩=some (.int .u8 9)/\(u.alloc o).cell? ⟨zb,1,none⟩=some (.int .i64 (-7070 - (na:Int)))):=hid fun u lits res o h=>⟨(L0b (a:=⟨zb,0,none⟩) (Below.heap_alloc _ _ _ (L0a xb h.size))).trans (h.z xb xd q0),(L0b (a:=⟨zb,1,none⟩) (Below.heap_alloc _ _ _ (L0a xb h.size))).trans (h.z xb xd q1)⟩
 have HQ:Hid (V.cell? ⟨zb,0,none⟩=some (.int .u8 9)/\V.cell? ⟨zb,1,none⟩=some (.int .i64 (-7070 - (na:Int)))):=hid ⟨q0,q1⟩;clear q0 q1 yg xl xn yt hzb;refine wp_region_held_drew (S:=fun u=>u.cell? ⟨zb,0,none⟩=some (.int .u8 9)/\u.cell? ⟨zb,1,none⟩=some (.int .i64 (-7070 - (na:Int)))) Q7 (HC.out _ _ _ S0.out.drew) (fun hHeld=>?_);have ym:=hid S0.out.drew;generalize V.drew=U at *
 refine TW 0 ⟨some 14,.move (.tmp 1),84,"book.go:81",#[],none⟩ ?_
 refine TW 1 ⟨some 15,.move (.tmp 1),84,"book.go:81",#[],none⟩ ?_
 refine TW 2 ⟨some 16,.load 92 (.tmp 4),92,"book.go:81",#[],none⟩ ?_
 refine TW 5 ⟨some 19,.move (.tmp 1),84,"book.go:81",#[],none⟩ ?_
 refine TW 6 ⟨some 20,.load 92 (.tmp 4),92,"book.go:81",#[],none⟩ ?_
 refine TW 7 ⟨some 21,.load 92 (.tmp 4),92,"book.go:81",#[],none⟩ ?_
 refine TW 10 ⟨some 24,.move (.tmp 1),84,"book.go:81",#[],none⟩ ?_
 refine TW 11 ⟨some 25,.load 92 (.tmp 4),92,"book.go:81",#[],none⟩ ?_
 refine TW 12 ⟨some 26,.load 92 (.tmp 4),92,"book.go:81",#[],none⟩ ?_
 refine TW 13 ⟨some 27,.load 92 (.tmp 4),92,"book.go:81",#[],none⟩ ?_
 clear hHeld
 refine a2b 14 4 5 132 "book.go:81" (fun u lits res h => ⟨HC.out _ _ _ h, fun o => xi.out _ _ _ o h⟩) HT.out hn zg xf.out ym.out ?_
 intro x1 x2 x3 a1 a2 a3 c1 c2 c3 lits ww hS;simp only[Act.put,Nat.reduceAdd,T1,T2,T3];clear xf HT HC xi ym S0;have HS:=hid hS;have xv:=hS.size;obtain⟨vs,nb,W4,ys,yl,SW,yx,xu,yc,xq,yd,ze,ye,yz,xz,xr⟩:=uX (s:=84) (zv:=dU na) hS;rw[<- ys,<- yl];clear hS ys yl;go_wp2_with fail;go_loopw [6] (fun vi wr=>∃k:Nat,k<=4/\vi=.int .i64 k/\Wr W4 wr 92 2 (dU na) vs k 0) (fun vi _=>4 - (intOf vi).toNat)
 case atStart=>exact ⟨0,by omega,rfl,SW.out⟩
 case round =>
  obtain⟨k,hk,rfl,xa⟩:=hrel;by_cases hlt:k < 4
  ·obtain ⟨p,hp⟩:∃p,vs[k]?=some p:=⟨_,L1b R4⟩
   have zo:(k:Int) < 4:=by omega
   have xw:=hid xa;have xg:=L2a hp;obtain⟨pa,pc,zd,zr,_⟩:=(xa.has p xg).form;have zu:=ze.out p xg;have xc:Hid (∀u:World,(∀b,(∀p,p∈vs->p.1.ownBlock≠some b)->u.heap[b]?=W4.heap[b]?)->u.cell? ⟨nb,k,none⟩=some p.1/\nb < u.heap.size):=hid fun u hu=>by
    have h1:=(hu nb yc.out).trans xu.out;refine⟨?_,(L2b.1 h1).1⟩;simp only[World.cell?,h1];simp[List.getElem?_map,hp]
   clear xa;go_wp2_with fail;go_loopw [7] (fun vi wr=>∃i:Nat,i<=p.2/\vi=.int .i64 i/\Wr W4 wr 92 2 (dU na) vs k (i*2)) (fun vi _=>p.2 - (intOf vi).toNat)
   case atStart=>exact ⟨0,by omega,rfl,by rw [Nat.zero_mul];exact xw.out⟩
   case round =>
    obtain⟨i,hi,rfl,xa⟩:=hrel;have cn:=(xc.out wr xa.keep).1;have yu:=(xc.out wr xa.keep).2;have yj:=hid xa;by_cases hli:i < p.2
    ·obtain ⟨zt,zc,xy,zj,zh⟩:=(xa.has p xg).form
     obtain⟨b,rfl,xj,zw,xx,xt⟩:=zh R4;have yy:b≠nb:=fun e=>yc.out p xg (by rw [xj,e])
     have xh:b≠zb:=fun e=>xq.out zb xb xd p xg (by rw [xj,e])
     have xe:=(xa.keep zb (xq.out zb xb xd)).trans (yd.out zb xb xd);have d0:wr.cell? ⟨zb,0,none⟩=some (.int .u8 9):=(L0b (a:=⟨zb,0,none⟩) xe).trans HQ.out.1;have d1:wr.cell? ⟨zb,1,none⟩=some (.int .i64 (-7070 - (na:Int))):=(L0b (a:=⟨zb,1,none⟩) xe).trans HQ.out.2;obtain⟨g0,yq⟩:=xt (i*2) R4;have yw:=xx (i*2);obtain⟨g1,yo⟩:=xt (i*2+1) R4
     have zi:=xx (i*2+1);rw[xy] at cn;have zk:(i:Int) < (p.2:Int):=by omega
     clear xa xx xt;go_wp2_with fail;refine wp_region_held_drew (S:=fun u=>u.cell? ⟨nb,k,none⟩=some (.slice (some ⟨b,0,none⟩) p.2 zc)/\u.cell? ⟨zb,0,none⟩=some (.int .u8 9)/\u.cell? ⟨zb,1,none⟩=some (.int .i64 (-7070 - (na:Int)))) Q7 ⟨cn,d0,d1⟩ (fun hHeld=>?_)
     refine TW 0 ⟨some 46,.move (.tmp 5),132,"book.go:84",#[],none⟩ ?_
     refine TW 1 ⟨some 47,.move (.tmp 6),3,"book.go:84",#[],none⟩ ?_
     refine TW 2 ⟨some 48,.indexAddr 132 (.tmp 46) (.tmp 47),0,"book.go:84",#[⟨0,.data⟩,⟨1,.data⟩],none⟩ ?_
     refine TW 3 ⟨some 49,.load 84 (.tmp 48),84,"book.go:84",#[⟨2,.data⟩],none⟩ ?_
     refine TW 4 ⟨some 50,.move (.tmp 7),3,"book.go:84",#[],none⟩ ?_
     refine TW 5 ⟨some 51,.load 92 (.tmp 4),92,"book.go:84",#[],none⟩ ?_
     refine TW 6 ⟨some 52,.indexAddr 84 (.tmp 49) (.tmp 50),0,"book.go:84",#[⟨3,.data⟩,⟨4,.data⟩,⟨0,.phase⟩,⟨1,.phase⟩,⟨2,.phase⟩,⟨3,.phase⟩,⟨4,.phase⟩,⟨5,.phase⟩],none⟩ ?_
     clear hHeld
     refine TO 7 ⟨none,.store 92 (.tmp 52) (.tmp 51),0,"book.go:84",#[⟨6,.data⟩,⟨5,.data⟩,⟨0,.phase⟩,⟨1,.phase⟩,⟨2,.phase⟩,⟨3,.phase⟩,⟨4,.phase⟩,⟨5,.phase⟩],none⟩ fun K hK => ?_
     go_simp
     refine TG hK ⟨show ((wr.setCell ⟨b,i*2,none⟩ (.int .u8 9)).setCell ⟨b,i*2+1,none⟩ (.int .i64 (-7070 - (na:Int)))).cell? ⟨nb,k,none⟩=_ from by (repeat rw [World.cell?_setCell_far _ _ _ _ (show b≠nb from yy)]);exact cn,show ((wr.setCell ⟨b,i*2,none⟩ (.int .u8 9)).setCell ⟨b,i*2+1,none⟩ (.int .i64 (-7070 - (na:Int)))).cell? ⟨zb,0,none⟩=_ from by (repeat rw [World.cell?_setCell_far _ _ _ _ (show b≠zb from xh)]);exact d0,show ((wr.setCell ⟨b,i*2,none⟩ (.int .u8 9)).setCell ⟨b,i*2+1,none⟩ (.int .i64 (-7070 - (na:Int)))).cell? ⟨zb,1,none⟩=_ from by (repeat rw [World.cell?_setCell_far _ _ _ _ (show b≠zb from xh)]);exact d1⟩ fun hHeld=>?_
     clear hK K;clear hHeld;refine wpAnyH_done Q7 ?_ _;have HX:Hid (Wr W4 ((wr.setCell ⟨b,i*2,none⟩ (.int .u8 9)).setCell ⟨b,i*2+1,none⟩ (.int .i64 (-7070 - (na:Int)))).drew 92 2 (dU na) vs k ((i+1)*2)):=hid (by
      have z0:(dU na) (i*2)=.int .u8 9:=by unfold dU;rw [if_pos R4]
      have z1:(dU na) (i*2+1)=.int .i64 (-7070 - (na:Int)):=by unfold dU;rw [if_neg R4]
      have s0:=yj.out;have s1:=s0.next hp xj ⟨g0,yq⟩;rw[z0] at s1;have s2:=s1.next hp xj ⟨g1,by rw [World.cell?_setCell_other _ _ _ _ R5];exact yo⟩;rw[z1] at s2;rw[show (i+1)*2=i*2+1+1 by omega];exact s2.drew)
     generalize ((wr.setCell ⟨b,i*2,none⟩ (.int .u8 9)).setCell ⟨b,i*2+1,none⟩ (.int .i64 (-7070 - (na:Int)))).drew=Y at *
     clear cn d0 d1 yq yw yo zi;go_wp2_with fail;go_roundw
     case rel=>exact ⟨i+1,by omega,by go_num,HX.out⟩
     case measure=>simp [intOf];omega
    ·obtain rfl:i=p.2:=by omega
     have zm:¬(p.2:Int) < (p.2:Int):=by omega
     rw[zd] at cn;clear xa;go_wp2_with fail;go_roundw
     case rel=>exact ⟨k+1,by omega,by go_num,Wr.done yj.out hp⟩
     case measure=>simp [intOf];omega
  ·obtain rfl:k=4:=by omega
   have xw:=hid xa;have xp:∀b,b < w.heap.size->(Value.slice va n vc).ownBlock≠some b->wr.heap[b]?=w.heap[b]?:=fun b hb hn=>by
    have yh:b < V.heap.size:=by have:=xk.out.size;omega
    rw[xa.keep b (xq.out b yh hn),yd.out b yh hn];exact xk.out.block b hb
   have xo:=xp yb hy hy2;have y1:wr.cell? ⟨yb,3,none⟩=some (.slice aa na xm):=(L0b (a:=⟨yb,3,none⟩) xo).trans hc;have y2:wr.frozen? ⟨yb,3,none⟩=false:=(L0c (a:=⟨yb,3,none⟩) xo).trans hz;have zx:yb < wr.heap.size:=by have:=xa.size;have:=xz.out;have:=xk.out.size;omega
   have zp:Hid (wr.ownsRow 0 132 1 (.slice aa na xm) na al):=hid (A7 HA.out fun b hb=>xp b (HA.out.lt b hb).2 fun e=>H5 HA.out HV.out R3 b hb e);have za:=hid (HS.out.rebase xk.out HV.out);have zm:¬(4:Int) < 4:=by decide
   clear xa xo xp;go_wp2_with (at_builtin;go_must (refine B0 _ rfl (.tmp 57) (.tmp 59) 31 rfl 0 132 i9 _ 1 24 underlying31 HN.out.1 HN.out.2.1 HN.out.2.2.1 HN.out.2.2.2 rfl R3 (.slice aa na xm) na al rfl (zp.out.alloc _) (some ⟨wr.heap.size,0,none⟩) 1 1 [.slice (some ⟨nb,0,none⟩) 4 4] rfl rfl (fun _=>⟨_,rfl,World.news_of_block (cs:=#[.slice (some ⟨nb,0,none⟩) 4 4]) (t:=132) (fr:=(0,0)) (B1 (by first | rfl | simp))⟩) (by intro u hu;simp at hu;subst hu;rfl) Q5 R4 R5 ?_))
   intro v5 w5 hown5 hgrow5 hat5;obtain⟨a5,c5,zq,_⟩:=B4 hown5;subst zq;obtain⟨e1,e2,e3,e4,e5,e6,e7⟩:=hY (te:=84) (zv:=dU na) za.out HV.out yz.out (by rw [<- ye.out,xr.out];exact xw.out) HA.out R3 hy hy1 hy2 hgrow5 hown5 (fun g hg=>by rcases hat5 g hg with e | e;exact Or.inl e;exact Or.inr (by rw [e];simp)) ⟨_,hc⟩;rw[hc] at e1;rw[hz] at e2;rw[<- ye.out] at e4 e7;have HE:=hid (And.intro e4 (And.intro e5 (And.intro e6 e7)))
   clear hown5 hgrow5 hat5 e4 e5 e6 e7;go_wp2_with fail;go_end0
   exact⟨rfl,nb,vs,_,yx,HE.out.1,HE.out.2.1,HE.out.2.2.1,HE.out.2.2.2⟩
section
variable {P:A3} {j yb:Nat} {w w':World}
structure PlR where
 ps:List (Nat × Nat)
 psv:Value
 v:Nat->Value
 l:Nat->List Nat
def tyE (j:Nat):Nat:=if j=1 then 109 else if j=2 then 128 else if j=3 then 132 else if j=4 then 83 else 88
def cQ (p:Nat × Nat):List Value:=[.pointer (some ⟨p.1,0,none⟩),.pointer (some ⟨p.2,0,none⟩)]
def nL (nb:Nat):Value:=.slice (some ⟨nb,0,none⟩) 4 4
structure I1 (w:World) (yb:Nat) (Y:PlR):Prop where
 me:yb < w.heap.size
 fz:∀j,w.frozen? ⟨yb,j,none⟩=false
 c0:w.cell? ⟨yb,0,none⟩=some Y.psv
 row0:w.ownsRow 0 48 2 Y.psv Y.ps.length (Y.ps.flatMap cQ)
 ne0:Y.psv.ownBlock≠some yb
 c:∀j,1<=j->j<=5->w.cell? ⟨yb,j,none⟩=some (Y.v j)
 row:∀j,1<=j->j<=5->w.ownsRow 0 (tyE j) 1 (Y.v j) (Y.l j).length ((Y.l j).map nL)
 ne:∀j,1<=j->j<=5->(Y.v j).ownBlock≠some yb
def Q0 (yb:Nat) (Y:PlR) (k:Nat):Prop:=k=yb\/Y.psv.ownBlock=some k\/∃j,1<=j/\j<=5/\(Y.v j).ownBlock=some k
theorem I1.lt {Y:PlR} (h:I1 w yb Y):∀k,Q0 yb Y k->k < w.heap.size:=fun k hk=>by
 rcases hk with rfl | hk | ⟨j,h1,h2,hk⟩
 ·exact h.me
 ·exact (h.row0.lt k hk).2
 ·exact ((h.row j h1 h2).lt k hk).2
theorem I1.keep {Y:PlR} (h:I1 w yb Y) (hs:w.heap.size<=w'.heap.size) (hk:∀k,k < w.heap.size->Q0 yb Y k->w'.heap[k]?=w.heap[k]?):I1 w' yb Y:=by
 have hy:=hk yb h.me (Or.inl rfl);exact⟨L0a h.me hs,fun j=>(L0c (a:=⟨yb,j,none⟩) hy).trans (h.fz j),(L0b (a:=⟨yb,0,none⟩) hy).trans h.c0,A7 h.row0 fun b hb=>hk b (h.row0.lt b hb).2 (Or.inr (Or.inl hb)),h.ne0,fun j h1 h2=>(L0b (a:=⟨yb,j,none⟩) hy).trans (h.c j h1 h2),fun j h1 h2=>A7 (h.row j h1 h2) fun b hb=>hk b ((h.row j h1 h2).lt b hb).2 (Or.inr (Or.inr ⟨j,h1,h2,hb⟩)),h.ne⟩
def I2 (yb:Nat) (Y:PlR):D5 :=
 ⟨Q0 yb Y,fun w=>I1 w yb Y,fun _ h=>h.lt,fun _ _ h hs hk=>h.keep hs fun k hl hb=>hk k hl (Or.inl hb)⟩
def PlR.upd (Y:PlR) (j:Nat) (av:Value) (nb:Nat):PlR:={ Y with v:=fun i=>if i=j then av else Y.v i,l:=fun i=>if i=j then Y.l i++[nb] else Y.l i }
theorem a6v {i:Nat} (hi:1<=i) (hi5:i<=5) (hj:1<=j) (hj5:j<=5) (h:i≠j):tyE i≠tyE j:=by
 have:i=1\/i=2\/i=3\/i=4\/i=5:=by omega
 have:j=1\/j=2\/j=3\/j=4\/j=5:=by omega
 rcases ‹i=1\/_› with rfl | rfl | rfl | rfl | rfl <;> rcases ‹j=1\/_› with rfl | rfl | rfl | rfl | rfl <;> first | exact absurd rfl h | decide
theorem a3M (j:Nat):tyE j≠48:=by
 unfold tyE;split
 ·decide
 ·split
  ·decide
  ·split
   ·decide
   ·split <;> decide
theorem I1.book {Y:PlR} {v av':Value} {nb:Nat} {vs:List (Value × Nat)} (h:I1 w yb Y) (h1:1<=j) (h5:j<=5) (hv:∀k,v.ownBlock=some k->¬Q0 yb Y k) (hW:uS w w' yb j (Y.v j) v av' nb vs) (hc:w'.cell? ⟨yb,j,none⟩=some av') (ho:w'.ownsRow 0 (tyE j) 1 av' ((Y.l j).length+1) ((Y.l j).map nL++[.slice (some ⟨nb,0,none⟩) 4 4])) :
  I1 w' yb (Y.upd j av' nb)/\∀k,Q0 yb (Y.upd j av' nb) k->Q0 yb Y k\/w.heap.size<=k:=by
 have xa:(PlR.upd Y j av' nb).v j=av':=if_pos rfl;have xc:(PlR.upd Y j av' nb).l j=Y.l j++[nb]:=if_pos rfl;have xb:∀i,i≠j->(PlR.upd Y j av' nb).v i=Y.v i:=fun i hi=>if_neg hi
 have xd:∀i,i≠j->(PlR.upd Y j av' nb).l i=Y.l i:=fun i hi=>if_neg hi
 refine⟨⟨L0a h.me hW.size,fun i=>(hW.yf i).trans (h.fz i),(hW.yc 0 R4).trans h.c0,A7 h.row0 fun b hb=>hW.keep b (h.row0.lt b hb).2 (fun e=>h.ne0 (e▸hb)) (fun e=>H5 (h.row j h1 h5) h.row0 (a3M j) b e hb) (fun e=>hv b e (Or.inr (Or.inl hb))),h.ne0,fun i hi hi5=>?_,fun i hi hi5=>?_,fun i hi hi5=>?_⟩,fun k hk=>?_⟩
 ·by_cases e:i=j
  ·subst e;rw [xa];exact hc
  ·rw [xb i e];exact (hW.yc i e).trans (h.c i hi hi5)
 ·by_cases e:i=j
  ·subst e
   rw[xa,xc,List.length_append,List.map_append];exact ho
  ·rw [xb i e,xd i e]
   refine A7 (h.row i hi hi5) fun b hb=>hW.keep b ((h.row i hi hi5).lt b hb).2 (fun e'=>h.ne i hi hi5 (by rw [hb,e'])) (fun e'=>H5 (h.row j h1 h5) (h.row i hi hi5) (a6v h1 h5 hi hi5 fun q=>e q.symm) b e' hb) (fun e'=>hv b e' (Or.inr (Or.inr ⟨i,hi,hi5,hb⟩)))
 ·by_cases e:i=j
  ·subst e
   rw[xa];intro hb;rcases hW.avn yb hb with h' | h'
   ·exact h.ne i hi hi5 h'
   ·have:=h.me;omega
  ·rw [xb i e];exact h.ne i hi hi5
 ·rcases hk with hk | hk | ⟨i,hi,hi5,hk⟩
  ·exact Or.inl (Or.inl hk)
  ·exact Or.inl (Or.inr (Or.inl hk))
  ·by_cases e:i=j
   ·subst e
    rw[xa] at hk;rcases hW.avn k hk with h' | h'
    ·exact Or.inl (Or.inr (Or.inr ⟨i,hi,hi5,h'⟩))
    ·exact Or.inr h'
   ·rw [xb i e] at hk
    exact Or.inl (Or.inr (Or.inr ⟨i,hi,hi5,hk⟩))
theorem Sep.two (h:Sep P w) (i k m:Nat × Nat) (p q:D5) (hs:w.heap.size<=w'.heap.size) (hk:∀b,b < w.heap.size->¬(P i).B b->¬(P k).B b->w'.heap[b]?=w.heap[b]?) (hp:p.F w') (hq:q.F w') (hpB:∀b,p.B b->(P i).B b\/w.heap.size<=b) (hqB:∀b,q.B b->(P k).B b\/w.heap.size<=b) (hd:∀b,p.B b->¬q.B b) :
  Sep (((P.put i p).put k D5.none).put m q) w':=by
 have xb:=h.pos;have xa:∀j,(((P.put i p).put k D5.none).put m q) j=if j=m then q else if j=k then D5.none else if j=i then p else P j:=fun j=>rfl
 have xc:∀j,j≠m->j≠k->j≠i->∀b,(P j).B b->b < w.heap.size/\¬(P i).B b/\¬(P k).B b:=fun j _ h2 h3 b hb=>⟨(P j).lt w (h.F j) b hb,fun hc=>h3 (h.dis j i b hb hc),fun hc=>h2 (h.dis j k b hb hc)⟩
 have bp:∀j,j≠m->j≠k->j≠i->∀b,(P j).B b->¬p.B b/\¬q.B b:=fun j h1 h2 h3 b hb=>by
  obtain⟨o1,o2,o3⟩:=xc j h1 h2 h3 b hb;exact⟨fun hc=>by rcases hpB b hc with h' | h';exact o2 h';omega,fun hc=>by rcases hqB b hc with h' | h';exact o3 h';omega⟩
 refine⟨L0a xb hs,fun j=>?_,fun j l b hj hl=>?_,fun j hj=>?_⟩
 ·rw [xa]
  split
  ·exact hq
  ·split
   ·exact trivial
   ·split
    ·exact hp
    ·rename_i h1 h2 h3
     refine (P j).keep w w' (h.F j) hs fun b hb hb'=>?_
     rcases hb' with hb' | rfl
     ·obtain ⟨o1,o2,o3⟩:=xc j h1 h2 h3 b hb'
      exact hk b hb o2 o3
     ·exact hk 0 hb (h.z i) (h.z k)
 ·rw [xa] at hj hl
  split at hj
  ·split at hl
   ·rename_i e1 e2;rw [e1,e2]
   ·split at hl
    ·exact hl.elim
    ·split at hl
     ·exact (hd b hl hj).elim
     ·rename_i h1 h2 h3;exact ((bp l h1 h2 h3 b hl).2 hj).elim
  ·split at hj
   ·exact hj.elim
   ·split at hj
    ·split at hl
     ·exact (hd b hj hl).elim
     ·split at hl
      ·exact hl.elim
      ·split at hl
       ·rename_i e1 _ _ e2;rw [e1,e2]
       ·rename_i h1 h2 h3;exact ((bp l h1 h2 h3 b hl).1 hj).elim
    ·rename_i h1 h2 h3
     split at hl
     ·exact ((bp j h1 h2 h3 b hj).2 hl).elim
     ·split at hl
      ·exact hl.elim
      ·split at hl
       ·exact ((bp j h1 h2 h3 b hj).1 hl).elim
       ·exact h.dis j l b hj hl
 ·rw [xa] at hj
  split at hj
  ·rcases hqB 0 hj with h' | h'
   ·exact h.z k h'
   ·omega
  ·split at hj
   ·exact hj
   ·split at hj
    ·rcases hpB 0 hj with h' | h'
     ·exact h.z i h'
     ·omega
    ·exact h.z j hj
structure Stp (P:A3) (w:World) (P':A3) (w':World):Prop where
 os:w'.os=w.os
 tape:w'.tape=w.tape
 output:w'.output=w.output
 size:w.heap.size<=w'.heap.size
 out:∀b,b < w.heap.size->(∀i,¬(P i).B b)->w'.heap[b]?=w.heap[b]?
 grow:∀i b,(P' i).B b->(∃j,(P j).B b)\/w.heap.size<=b
theorem Stp.refl (P:A3) (w:World):Stp P w P w:=⟨rfl,rfl,rfl,L1c _,fun _ _ _=>rfl,fun i _ hb=>Or.inl ⟨i,hb⟩⟩
theorem Stp.trans {P' P'':A3} {w'':World} (h:Stp P w P' w') (h':Stp P' w' P'' w''):Stp P w P'' w'':=by
 have hs:=h.size;refine⟨h'.os.trans h.os,h'.tape.trans h.tape,h'.output.trans h.output,Nat.le_trans hs h'.size,fun b hb hn=>(h'.out b R4 fun i hi=>?_).trans (h.out b hb hn),fun i b hb=>?_⟩
 ·rcases h.grow i b hi with ⟨j,hj⟩ | h0
  ·exact hn j hj
  ·omega
 ·rcases h'.grow i b hb with ⟨j,hj⟩ | h0
  ·exact h.grow j b hj
  ·exact Or.inr R4
theorem Stp.swap (i:Nat × Nat) (p:D5) (hB:∀b,p.B b->(P i).B b):Stp P w (P.put i p) w :=
 ⟨rfl,rfl,rfl,L1c _,fun _ _ _=>rfl,fun j b hb=>by
  by_cases e:j=i
  ·rw [e,A3.put_same] at hb;exact Or.inl ⟨i,hB b hb⟩
  ·rw [A3.put_ne P e] at hb;exact Or.inl ⟨j,hb⟩⟩
theorem Stp.below (h:Below w.heap.size w w'):Stp P w P w':=⟨h.os,h.tape,h.output,h.size,fun b hb _=>h.block b hb,fun i _ hb=>Or.inl ⟨i,hb⟩⟩
theorem Stp.two (i k m:Nat × Nat) (p q:D5) (h1:w'.os=w.os) (h2:w'.tape=w.tape) (h3:w'.output=w.output) (hs:w.heap.size<=w'.heap.size) (hk:∀b,b < w.heap.size->¬(P i).B b->¬(P k).B b->w'.heap[b]?=w.heap[b]?) (hpB:∀b,p.B b->(P i).B b\/w.heap.size<=b) (hqB:∀b,q.B b->(P k).B b\/w.heap.size<=b):Stp P w (((P.put i p).put k D5.none).put m q) w':=by
 refine⟨h1,h2,h3,hs,fun b hb hn=>hk b hb (hn i) (hn k),fun j b hb=>?_⟩;have xa:(((P.put i p).put k D5.none).put m q) j=if j=m then q else if j=k then D5.none else if j=i then p else P j:=rfl
 rw[xa] at hb;split at hb
 ·rcases hqB b hb with h | h
  ·exact Or.inl ⟨k,h⟩
  ·exact Or.inr h
 ·split at hb
  ·exact hb.elim
  ·split at hb
   ·rcases hpB b hb with h | h
    ·exact Or.inl ⟨i,h⟩
    ·exact Or.inr h
   ·exact Or.inl ⟨j,hb⟩
def dJ (e sz:Nat) (v:Value) (n:Nat):D5 :=
 ⟨fun k=>v.ownBlock=some k,fun w=>Has w 0 e sz v n,fun _ h k hk=>by obtain ⟨xs,hx⟩:=h;exact (hx.lt k hk).2,fun _ _ h _ hk=>h.block fun b hb=>hk b (by obtain ⟨xs,hx⟩:=h;exact (hx.lt b hb).2) (Or.inl hb)⟩
end
section
variable {P:A3} {Y:PlR} {e n sz te yb:Nat} {k:Nat × Nat} {v:Value} {w:World}
theorem kA {B nb:Nat} {cs:Array Value} {xs:List Value} (h:w.ownsRow B e sz v n xs) (hb:w.heap[nb]?=some (.cells cs te (0,0))) (hne:e≠te):v.ownBlock≠some nb:=fun hv=>by
 rcases h.2 with ⟨h0,_⟩ | ⟨g,xc,xb,xa,_,hg,_⟩
 ·rw [h0] at hv;cases hv
 ·rw [xa] at hv
  obtain rfl:g=nb:=by simpa [Value.ownBlock] using hv
  rw[hb] at hg;have:=Option.some.inj hg;simp at this;exact hne this.2.symm
theorem Sep.book {w':World} {j:Nat} {zv:Nat->Value} (h:Sep P w) (hp:P (0,0)=I2 yb Y) (hk:P k=dJ e sz v n) (hk0:k≠(0,0)) (h1:1<=j) (h5:j<=5) (het:e≠tyE j) (htt:te≠tyE j) (hb:aZ e sz te (tyE j) yb j (Y.l j).length zv (Y.v j) v ((Y.l j).map nL) w w') (m:Nat × Nat) :
  ∃nb vs av',vs.length=4/\Sep (((P.put (0,0) (I2 yb (Y.upd j av' nb))).put k D5.none).put m (nK e sz te zv nb vs)) w'/\Stp P w (((P.put (0,0) (I2 yb (Y.upd j av' nb))).put k D5.none).put m (nK e sz te zv nb vs)) w':=by
 obtain⟨nb,vs,av',hl,hE,hc,ho,hW⟩:=hb;have xd:I1 w yb Y:=by have:=h.F (0,0);rw [hp] at this;exact this
 have xc:∀b,(P (0,0)).B b↔Q0 yb Y b:=fun b=>by rw [hp];exact Iff.rfl
 have xb:∀b,(P k).B b↔v.ownBlock=some b:=fun b=>by rw [hk];exact Iff.rfl
 have hv:∀b,v.ownBlock=some b->¬Q0 yb Y b:=fun b hb hq=>hk0 (h.dis k (0,0) b ((xb b).2 hb) ((xc b).2 hq))
 obtain⟨xf,xe⟩:=xd.book h1 h5 hv hW hc ho;have k1:∀b,b < w.heap.size->¬(P (0,0)).B b->¬(P k).B b->w'.heap[b]?=w.heap[b]?:=fun b hb h0 hk'=>by
  rw[xc] at h0;rw[xb] at hk';exact hW.keep b hb (fun e=>h0 (Or.inl e)) (fun e=>h0 (Or.inr (Or.inr ⟨j,h1,h5,e⟩))) hk'
 have k2:∀b,(I2 yb (Y.upd j av' nb)).B b->(P (0,0)).B b\/w.heap.size<=b:=fun b hb=>by rw [xc];exact xe b hb
 have k3:∀b,(nK e sz te zv nb vs).B b->(P k).B b\/w.heap.size<=b:=fun b hb=>by
  rw[xb];rcases hb with hb | ⟨p,hp,hb⟩
  ·exact Or.inr (by rw [hb];exact hW.nbn)
  ·exact hW.vsn p hp b hb
 refine⟨nb,vs,av',hl,h.two (0,0) k m _ _ hW.size k1 xf hE k2 k3 (fun b hb hq=>?_),Stp.two (0,0) k m _ _ hW.os hW.tape hW.output hW.size k1 k2 k3⟩
 ·-- the book's own blocks are none of the entry's
  have xa:Q0 yb Y b->False:=fun hpb=>by
   have xg:=xd.lt b hpb;rcases hq with hq | ⟨p,hp',hq⟩
   ·have:=hW.nbn;omega
   ·rcases hW.vsn p hp' b hq with h' | h'
    ·exact hv b h' hpb
    ·omega
  rcases hb with hb | hb | ⟨i,hi,hi5,hb⟩
  ·exact xa (Or.inl hb)
  ·exact xa (Or.inr (Or.inl hb))
  ·by_cases e':i=j
   ·subst e'
    have ev:(Y.upd i av' nb).v i=av':=if_pos rfl;rw[ev] at hb;rcases hq with hq | ⟨p,hp',hq⟩
    ·subst hq
     exact kA ho hE.blk (fun e=>htt e.symm) hb
    ·obtain ⟨ys,hy⟩:=hE.has p hp'
     exact H5 hy ho het b hq hb
   ·have ev:(Y.upd j av' nb).v i=Y.v i:=if_neg e'
    rw[ev] at hb;exact xa (Or.inr (Or.inr ⟨i,hi,hi5,hb⟩))
theorem a3O (h:Sep P w) (hp:P (0,0)=I2 yb Y) (hk:P k=dJ 92 2 v n) (hk0:k≠(0,0)) (hn:n<=1000000) (hna:(Y.l 3).length<=1000000000) (m:Nat × Nat) :
  Calls Tryz.prog 50 #[.pointer (some ⟨yb,1,none⟩),v] w fun e w'=>e=.returned (.tuple #[])/\∃nb vs av',vs.length=4/\Sep (((P.put (0,0) (I2 yb (Y.upd 3 av' nb))).put k D5.none).put m (nK 92 2 84 (dU (Y.l 3).length) nb vs)) w'/\Stp P w (((P.put (0,0) (I2 yb (Y.upd 3 av' nb))).put k D5.none).put m (nK 92 2 84 (dU (Y.l 3).length) nb vs)) w':=by
 have xa:I1 w yb Y:=by have:=h.F (0,0);rw [hp] at this;exact this
 have xb:Has w 0 92 2 v n:=by have:=h.F k;rw [hk] at this;exact this
 obtain⟨xs,hx⟩:=xb;have xc:v.ownBlock≠some yb:=fun e=>hk0 (h.dis k (0,0) yb (by rw [hk];exact e) (by rw [hp];exact Or.inl rfl))
 have hr:=xa.row 3 R3 R3;rw[show (Y.l 3).length=((Y.l 3).length) from rfl] at hr;refine (a3N xa.me (xa.c 3 R3 R3) (xa.fz 3) hr hx hna hn (xa.ne 3 R3 R3) xc).mono ?_;rintro e w' ⟨rfl,hb⟩;exact⟨rfl,h.book hp hk hk0 R3 R3 R3 R3 hb m⟩
theorem a2K (h:Sep P w) (hp:P (0,0)=I2 yb Y) (hk:P k=dJ 3 1 v n) (hk0:k≠(0,0)) (hn:n<=1000000) (hna:(Y.l 1).length<=1000000000) (m:Nat × Nat) :
  Calls Tryz.prog 24 #[.pointer (some ⟨yb,1,none⟩),v] w fun e w'=>e=.returned (.tuple #[])/\∃nb vs av',vs.length=4/\Sep (((P.put (0,0) (I2 yb (Y.upd 1 av' nb))).put k D5.none).put m (nK 3 1 24 (fun _=>.int .i64 (-7070 - ((Y.l 1).length:Int))) nb vs)) w'/\Stp P w (((P.put (0,0) (I2 yb (Y.upd 1 av' nb))).put k D5.none).put m (nK 3 1 24 (fun _=>.int .i64 (-7070 - ((Y.l 1).length:Int))) nb vs)) w':=by
 have xa:I1 w yb Y:=by have:=h.F (0,0);rw [hp] at this;exact this
 have xb:Has w 0 3 1 v n:=by have:=h.F k;rw [hk] at this;exact this
 obtain⟨xs,hx⟩:=xb;have xc:v.ownBlock≠some yb:=fun e=>hk0 (h.dis k (0,0) yb (by rw [hk];exact e) (by rw [hp];exact Or.inl rfl))
 refine (a2I xa.me (xa.c 1 R3 R3) (xa.fz 1) (xa.row 1 R3 R3) hx hna hn (xa.ne 1 R3 R3) xc).mono ?_;rintro e w' ⟨rfl,hb⟩;exact⟨rfl,h.book hp hk hk0 R3 R3 R3 R3 hb m⟩
end
section
variable {P:A3} {Y:PlR} {j n yb:Nat} {k:Nat × Nat} {p p0:D5} {v:Value} {w:World}
theorem Sep.swap (h:Sep P w) (i:Nat × Nat) (p:D5) (hF:p.F w) (hB:∀b,p.B b->(P i).B b):Sep (P.put i p) w :=
 h.upd i p (L1c _) (fun _ _ _=>rfl) hF fun b hb=>Or.inl (hB b hb)
def mU (e sz:Nat) (v:Value) (n:Nat) (xs:List Value):D5 :=
 ⟨fun k=>v.ownBlock=some k,fun w=>w.ownsRow 0 e sz v n xs,fun _ h k hk=>(h.lt k hk).2,fun _ _ h _ hk=>A7 h fun b hb=>hk b (h.lt b hb).2 (Or.inl hb)⟩
def zfr (na:Nat) (off:Nat):Value:=if off % 4=0 then .int .i64 (-7070 - (na:Int)) else if off % 4=1 then .int .i64 0 else .slice none 0 0
def zob (fb:Nat) (off:Nat):Value:=if off % 2=0 then .int .u8 9 else .slice (some ⟨fb,0,none⟩) 1 1
def obP (na nb fb:Nat) (vs:List (Value × Nat)):D5 :=
 ⟨fun k=>a4B nb vs k\/k=fb,fun w=>aD w 90 2 74 (zob fb) nb vs/\w.heap[fb]?=some (.cells #[.int .u8 9,.int .i64 (-7070 - (na:Int))] 92 (0,0)),fun w h k hk=>by
  rcases hk with hk | rfl
  ·exact h.1.lt k hk
  ·exact (L2b.1 h.2).1,fun w w' h _ hk=>⟨h.1.keep fun k hl hb=>hk k hl (Or.inl (Or.inl hb)),(hk fb (L2b.1 h.2).1 (Or.inl (Or.inr rfl))).trans h.2⟩⟩
structure a5v (j i nb:Nat) (p:D5):Prop where
 a:j=1->∃vs:List (Value × Nat),vs.length=4/\p=nK 3 1 24 (fun _=>.int .i64 (-7070 - (i:Int))) nb vs
 c:j=3->∃vs:List (Value × Nat),vs.length=4/\p=nK 92 2 84 (dU i) nb vs
 d:j=4->∃vs:List (Value × Nat),vs.length=4/\p=nK 86 4 66 (zfr i) nb vs
 e:j=5->∃(vs:List (Value × Nat)) (fb:Nat),vs.length=4/\p=obP i nb fb vs
def I9 (P:A3) (Y:PlR):Prop:=Y.l 2=[]/\∀j i nb,1<=j->j<=5->(Y.l j)[i]?=some nb->a5v j i nb (P (j+2,i))
def bA (P P':A3) (K:Nat × Nat->Prop):Prop:=∀q,(q.1=1\/q.1=2\/8<=q.1)->¬K q->P' q=P q
theorem I9.upd {nb:Nat} {av:Value} (h:I9 P Y) (h1:1<=j) (h5:j<=5) (hj2:j≠2) (hk:8<=k.1) (hE:a5v j (Y.l j).length nb p):I9 (((P.put (0,0) p0).put k D5.none).put (j+2,(Y.l j).length) p) (Y.upd j av nb):=by
 refine⟨by show (if 2=j then _ else Y.l 2)=[];rw [if_neg (fun e=>hj2 e.symm)];exact h.1,fun i q b hi hi5 hq=>?_⟩;by_cases e:i=j
 ·subst e
  have el:(Y.upd i av nb).l i=Y.l i++[nb]:=if_pos rfl;rw[el] at hq;by_cases e2:q=(Y.l i).length
  ·subst e2
   rw[List.getElem?_append_right (L1c _)] at hq;simp at hq;subst hq;rw[A3.put_same];exact hE
  ·have xa:q < (Y.l i).length:=by
    have:=(L1a.1 hq).1;simp at this;omega
   rw[List.getElem?_append_left xa] at hq;rw[A3.put_ne _ (by intro e;simp only [Prod.mk.injEq] at e;omega),A3.put_ne _ (by intro e;rw [<- e] at hk;simp only at hk;omega),A3.put_ne _ (by intro e;simp only [Prod.mk.injEq] at e;omega)];exact h.2 i q b hi hi5 hq
 ·have el:(Y.upd j av nb).l i=Y.l i:=if_neg e
  rw[el] at hq;rw[A3.put_ne _ (by intro e;simp only [Prod.mk.injEq] at e;omega),A3.put_ne _ (by intro e;rw [<- e] at hk;simp only at hk;omega),A3.put_ne _ (by intro e;simp only [Prod.mk.injEq] at e;omega)];exact h.2 i q b hi hi5 hq
theorem iJ (h1:1<=j) (h5:j<=5):bA P (((P.put (0,0) p0).put k D5.none).put (j+2,n) p) (fun q=>q=k):=fun q hq hn=>by
 rw[A3.put_ne _ (by intro e;rw [e] at hq;simp only at hq;omega),A3.put_ne _ hn,A3.put_ne _ (by intro e;rw [e] at hq;simp only at hq;omega)]
structure aE (Y Y':PlR) (j:Nat) (n:Nat):Prop where
 ps:Y'.ps=Y.ps
 psv:Y'.psv=Y.psv
 l:∀i,i≠j->Y'.l i=Y.l i
 lj:(Y'.l j).length=(Y.l j).length+n
theorem fG (Y:PlR) (j:Nat) (av:Value) (nb:Nat):aE Y (Y.upd j av nb) j 1 :=
 ⟨rfl,rfl,fun i hi=>if_neg hi,by have e:(Y.upd j av nb).l j=Y.l j++[nb]:=if_pos rfl;rw [e,List.length_append];rfl⟩
theorem a5A (P:A3) {j n:Nat} {p0 p:D5} {k:Nat × Nat} (hk:8<=k.1) (h5:j<=5):(((P.put (0,0) p0).put k D5.none).put (j+2,n) p) k=D5.none:=by
 rw[A3.put_ne _ (by intro e;rw [e] at hk;simp only at hk;omega),A3.put_same]
theorem zQ (P:A3) {j n:Nat} {p0 p:D5} {k:Nat × Nat} (hk:8<=k.1):(((P.put (0,0) p0).put k D5.none).put (j+2,n) p) (0,0)=p0:=by
 rw[A3.put_ne _ (by intro e;simp only [Prod.mk.injEq] at e;omega),A3.put_ne _ (by intro e;rw [<- e] at hk;simp only at hk;omega),A3.put_same]
def yR (P:A3) (yb:Nat) (Y:PlR) (K:Nat × Nat->Prop) (j n:Nat) (w:World) (e:Ending) (w':World):Prop :=
 e=.returned (.tuple #[])/\∃P' Y',Sep P' w'/\P' (0,0)=I2 yb Y'/\I9 P' Y'/\bA P P' K/\(∀q,K q->P' q=D5.none)/\aE Y Y' j n/\Stp P w P' w'
theorem nD (h:Sep P w) (hp:P (0,0)=I2 yb Y) (hL:I9 P Y) (hk:P k=dJ 92 2 v n) (hk8:8<=k.1) (hn:n<=1000000) (hna:(Y.l 3).length<=1000000000) :
  Calls Tryz.prog 50 #[.pointer (some ⟨yb,1,none⟩),v] w fun e w'=>yR P yb Y (fun q=>q=k) 3 1 w e w':=by
 refine (a3O h hp hk (fun e=>by rw [e] at hk8;simp only at hk8;omega) hn hna (3+2,(Y.l 3).length)).mono ?_;rintro e w' ⟨rfl,nb,vs,xa,hl,hS,hs⟩;exact⟨rfl,_,Y.upd 3 xa nb,hS,zQ P hk8,hL.upd R3 R3 R3 hk8 ⟨fun e=>by omega,fun _=>⟨vs,hl,rfl⟩,fun e=>by omega,fun e=>by omega⟩,iJ R3 R3,fun q hq=>by rw [hq];exact a5A P hk8 R3,fG _ _ _ _,hs⟩
theorem a2J (h:Sep P w) (hp:P (0,0)=I2 yb Y) (hL:I9 P Y) (hk:P k=dJ 3 1 v n) (hk8:8<=k.1) (hn:n<=1000000) (hna:(Y.l 1).length<=1000000000) :
  Calls Tryz.prog 24 #[.pointer (some ⟨yb,1,none⟩),v] w fun e w'=>yR P yb Y (fun q=>q=k) 1 1 w e w':=by
 refine (a2K h hp hk (fun e=>by rw [e] at hk8;simp only at hk8;omega) hn hna (1+2,(Y.l 1).length)).mono ?_;rintro e w' ⟨rfl,nb,vs,xa,hl,hS,hs⟩;exact⟨rfl,_,Y.upd 1 xa nb,hS,zQ P hk8,hL.upd R3 R3 R3 hk8 ⟨fun _=>⟨vs,hl,rfl⟩,fun e=>by omega,fun e=>by omega,fun e=>by omega⟩,iJ R3 R3,fun q hq=>by rw [hq];exact a5A P hk8 R3,fG _ _ _ _,hs⟩
end
section
variable {P:A3} {Y:PlR} {e nb sz te:Nat} {vs:List (Value × Nat)} {w:World} {zv:Nat->Value}
theorem I1.list {yb j:Nat} (h:I1 w yb Y) (h1:1<=j) (h5:j<=5):∃a c,w.cell? ⟨yb,j,none⟩=some (.slice a (Y.l j).length c)/\∀i nb,(Y.l j)[i]?=some nb->∃ab,a=some ⟨ab,0,none⟩/\ab < w.heap.size/\w.cell? ⟨ab,i,none⟩=some (.slice (some ⟨nb,0,none⟩) 4 4):=by
 have hr:=h.row j h1 h5;obtain⟨a,c,hv,_⟩:=B4 hr;have hc:=h.c j h1 h5;rw[hv] at hc;refine⟨a,c,hc,fun i nb hi=>?_⟩;have xc:=(L1a.1 hi).1;rcases hr.2 with ⟨_,h0⟩ | ⟨g,xd,xb,xa,_⟩
 ·omega
 ·rw [hv] at xa
  cases xa;rw[hv] at hr;refine⟨g,rfl,(hr.lt g rfl).2,?_⟩;rw[hr.cellAt i R4,List.getElem?_map,hi];rfl
theorem aD.get (h:aD w e sz te zv nb vs) {k:Nat} {p:Value × Nat} (hp:vs[k]?=some p):w.cell? ⟨nb,k,none⟩=some p.1/\nb < w.heap.size/\∃a c,p.1=.slice a p.2 c/\(0 < p.2->∃b,a=some ⟨b,0,none⟩/\b < w.heap.size/\∀off,off < p.2*sz->w.cell? ⟨b,off,none⟩=some (zv off)):=by
 have xa:=L2a hp;refine⟨?_,(L2b.1 h.blk).1,?_⟩
 ·simp only [World.cell?,h.blk]
  simp[List.getElem?_map,hp]
 ·obtain ⟨a,c,hv,_,hb⟩:=(h.has p xa).form
  refine⟨a,c,hv,fun h0=>?_⟩;obtain⟨b,ha,xc,xb,_⟩:=hb h0;exact⟨b,ha,xb,fun off ho=>h.zed p xa b xc off ho⟩
theorem aD.small (h:aD w e sz te zv nb vs) {k:Nat} {p:Value × Nat} (hp:vs[k]?=some p):p.2<=9223372036854775807:=by
 obtain⟨xs,hx⟩:=h.has p (L2a hp);rcases hx.2 with ⟨_,h0⟩ | ⟨g,xb,xa,_,_,_,h3,h4,_⟩
 ·omega
 ·unfold maxLen at h4
  omega
theorem I9.entA (h:I9 P Y) (hS:Sep P w) {i nb:Nat} (hi:(Y.l 1)[i]?=some nb):∃vs:List (Value × Nat),vs.length=4/\aD w 3 1 24 (fun _=>.int .i64 (-7070 - (i:Int))) nb vs:=by
 obtain⟨vs,hl,hp⟩:=(h.2 1 i nb R3 R3 hi).a rfl;have:=hS.F (1+2,i);rw[hp] at this;exact⟨vs,hl,this⟩
theorem I9.entC (h:I9 P Y) (hS:Sep P w) {i nb:Nat} (hi:(Y.l 3)[i]?=some nb):∃vs:List (Value × Nat),vs.length=4/\aD w 92 2 84 (dU i) nb vs:=by
 obtain⟨vs,hl,hp⟩:=(h.2 3 i nb R3 R3 hi).c rfl;have:=hS.F (3+2,i);rw[hp] at this;exact⟨vs,hl,this⟩
theorem I9.entD (h:I9 P Y) (hS:Sep P w) {i nb:Nat} (hi:(Y.l 4)[i]?=some nb):∃vs:List (Value × Nat),vs.length=4/\aD w 86 4 66 (zfr i) nb vs:=by
 obtain⟨vs,hl,hp⟩:=(h.2 4 i nb R3 R3 hi).d rfl;have:=hS.F (4+2,i);rw[hp] at this;exact⟨vs,hl,this⟩
theorem I9.entE (h:I9 P Y) (hS:Sep P w) {i nb:Nat} (hi:(Y.l 5)[i]?=some nb):∃(vs:List (Value × Nat)) (fb:Nat),vs.length=4/\aD w 90 2 74 (zob fb) nb vs/\w.heap[fb]?=some (.cells #[.int .u8 9,.int .i64 (-7070 - (i:Int))] 92 (0,0)):=by
 obtain⟨vs,fb,hl,hp⟩:=(h.2 5 i nb R3 R3 hi).e rfl;have:=hS.F (5+2,i);rw[hp] at this;exact⟨vs,fb,hl,this.1,this.2⟩
end
theorem jY {P:A3} {w:World} {yb:Nat} {Y:PlR} (h:Sep P w) (hp:P (0,0)=I2 yb Y) (hL:I9 P Y) (hle:∀j,(Y.l j).length<=1000000000) :
  Calls prog 38 #[.pointer (some ⟨yb,1,none⟩)] w fun e w'=>e=.returned (.bool true)/\Below w.heap.size w w':=by
 have xq:I1 w yb Y:=by have:=h.F (0,0);rw [hp] at this;exact this
 have xf:=xq.me;have xw:=hid xq;have HL:=hid hL;have xv:=hid h;have xn:=hid hle;have xy:Hid (Below w.heap.size w w):=hid (Below.refl _ _);clear xq hL h hle hp;go_enter func38,ntmps38;go_wp2_with fail;go_loopw [3] (fun vi wr=>∃i:Nat,i<=(Y.l 1).length/\vi=.int .i64 i/\Below w.heap.size w wr) (fun vi _=>(Y.l 1).length - (intOf vi).toNat)
 case atStart=>exact ⟨0,Nat.zero_le _,rfl,xy.out⟩
 case round =>
  obtain⟨i,hi,rfl,xc⟩:=hrel;have xh:=hid xc;have xt:=xn.out 1;obtain⟨la,lc,f0,hf⟩:=xw.out.list (j:=1) R3 R3;have g0:=keep xc xf f0;by_cases hlt:i < (Y.l 1).length
  ·obtain ⟨nb,xl⟩:∃nb,(Y.l 1)[i]?=some nb:=⟨_,L1b hlt⟩
   obtain⟨ab,rfl,xe,f1⟩:=hf i nb xl;obtain⟨vs,yc,hE⟩:=HL.out.entA xv.out xl;have HE:=hid hE;clear hE;have g1:=keep xc xe f1;have xu:(i:Int) < ((Y.l 1).length:Int):=by omega
   have xx:IntKind.i64.wrap (-7070 - (i:Int)) = -7070 - (i:Int):=Go.IntWalk.i64_in _ (by have:=xn.out 1;omega);clear xc hf;go_wp2_with fail;go_loopw [4] (fun vi wr=>∃k:Nat,k<=4/\vi=.int .i64 k/\Below w.heap.size w wr) (fun vi _=>4 - (intOf vi).toNat)
   case atStart=>exact ⟨0,by omega,rfl,xh.out⟩
   case round =>
    obtain⟨k,hk,rfl,xb⟩:=hrel;have xi:=hid xb;have g2:=keep xb xf f0;have g3:=keep xb xe f1;by_cases hlk:k < 4
    ·obtain ⟨p,hp⟩:∃p,vs[k]?=some p:=⟨_,L1b R4⟩
     obtain⟨f2,xd,pa,pc,xs,xp⟩:=HE.out.get hp;rw[xs] at f2;have ya:=HE.out.small hp;have xo:(k:Int) < 4:=by omega
     clear xb;go_wp2_with fail;go_loopw [5] (fun vi wr=>∃j:Nat,j<=p.2/\vi=.int .i64 j/\Below w.heap.size w wr) (fun vi _=>p.2 - (intOf vi).toNat)
     case atStart=>exact ⟨0,by omega,rfl,xi.out⟩
     case round =>
      obtain⟨j,hj,rfl,xa⟩:=hrel;have xk:=hid xa;have g4:=keep xa xf f0;have g5:=keep xa xe f1;have g6:=keep xa xd f2;by_cases hlj:j < p.2
      ·obtain ⟨b,rfl,xm,xg⟩:=xp R4
       have xr:(j:Int) < (p.2:Int):=by omega
       have z0:=keep xa xm (xg (j) R4)
       try simp only at z0
       clear xa xg;go_wp2_with fail;go_roundw
       case rel=>exact ⟨j+1,by omega,by go_num,by repeat (first | exact xk.out | refine Below.drew ?_ | refine Below.alloc ?_ (by first | (simp;done) | (simp;omega) | omega) _)⟩
       case measure=>simp [intOf];omega
      ·obtain rfl:j=p.2:=by omega
       have xj:¬(p.2:Int) < (p.2:Int):=by omega
       clear xa;go_wp2_with fail;go_roundw
       case rel=>exact ⟨k+1,by omega,by go_num,xk.out⟩
       case measure=>simp [intOf];omega
    ·obtain rfl:k=4:=by omega
     have xj:¬(4:Int) < 4:=by decide
     clear xb;go_wp2_with fail;go_roundw
     case rel=>exact ⟨i+1,by omega,by go_num,xi.out⟩
     case measure=>simp [intOf];omega
  ·obtain rfl:i=(Y.l 1).length:=by omega
   have xj:¬((Y.l 1).length:Int) < ((Y.l 1).length:Int):=by omega
   clear xc hf;go_wp2_with fail;have xz:=hid xh.out;clear xh g0 f0;go_loopw [6] (fun vi wr=>∃i:Nat,i<=(Y.l 3).length/\vi=.int .i64 i/\Below w.heap.size w wr) (fun vi _=>(Y.l 3).length - (intOf vi).toNat)
   case atStart=>exact ⟨0,Nat.zero_le _,rfl,xz.out⟩
   case round =>
    obtain⟨i,hi,rfl,xc⟩:=hrel;have xh:=hid xc;have xt:=xn.out 3;obtain⟨la,lc,f0,hf⟩:=xw.out.list (j:=3) R3 R3;have g0:=keep xc xf f0;by_cases hlt:i < (Y.l 3).length
    ·obtain ⟨nb,xl⟩:∃nb,(Y.l 3)[i]?=some nb:=⟨_,L1b hlt⟩
     obtain⟨ab,rfl,xe,f1⟩:=hf i nb xl;obtain⟨vs,yc,hE⟩:=HL.out.entC xv.out xl;have HE:=hid hE;clear hE;have g1:=keep xc xe f1;have xu:(i:Int) < ((Y.l 3).length:Int):=by omega
     have xx:IntKind.i64.wrap (-7070 - (i:Int)) = -7070 - (i:Int):=Go.IntWalk.i64_in _ (by have:=xn.out 3;omega);clear xc hf;go_wp2_with fail;go_loopw [7] (fun vi wr=>∃k:Nat,k<=4/\vi=.int .i64 k/\Below w.heap.size w wr) (fun vi _=>4 - (intOf vi).toNat)
     case atStart=>exact ⟨0,by omega,rfl,xh.out⟩
     case round =>
      obtain⟨k,hk,rfl,xb⟩:=hrel;have xi:=hid xb;have g2:=keep xb xf f0;have g3:=keep xb xe f1;by_cases hlk:k < 4
      ·obtain ⟨p,hp⟩:∃p,vs[k]?=some p:=⟨_,L1b R4⟩
       obtain⟨f2,xd,pa,pc,xs,xp⟩:=HE.out.get hp;rw[xs] at f2;have ya:=HE.out.small hp;have xo:(k:Int) < 4:=by omega
       clear xb;go_wp2_with fail;go_loopw [8] (fun vi wr=>∃j:Nat,j<=p.2/\vi=.int .i64 j/\Below w.heap.size w wr) (fun vi _=>p.2 - (intOf vi).toNat)
       case atStart=>exact ⟨0,by omega,rfl,xi.out⟩
       case round =>
        obtain⟨j,hj,rfl,xa⟩:=hrel;have xk:=hid xa;have g4:=keep xa xf f0;have g5:=keep xa xe f1;have g6:=keep xa xd f2;by_cases hlj:j < p.2
        ·obtain ⟨b,rfl,xm,xg⟩:=xp R4
         have xr:(j:Int) < (p.2:Int):=by omega
         have z0:=keep xa xm (xg (j*2) R4);rw[show dU i (j*2)=.int .u8 9 by unfold dU;rw [if_pos R4]] at z0;have z1:=keep xa xm (xg (j*2+1) R4);rw[show dU i (j*2+1)=.int .i64 (-7070 - (i:Int)) by unfold dU;rw [if_neg R4]] at z1;clear xa xg;go_wp2_with fail;go_roundw
         case rel=>exact ⟨j+1,by omega,by go_num,by repeat (first | exact xk.out | refine Below.drew ?_ | refine Below.alloc ?_ (by first | (simp;done) | (simp;omega) | omega) _)⟩
         case measure=>simp [intOf];omega
        ·obtain rfl:j=p.2:=by omega
         have xj:¬(p.2:Int) < (p.2:Int):=by omega
         clear xa;go_wp2_with fail;go_roundw
         case rel=>exact ⟨k+1,by omega,by go_num,xk.out⟩
         case measure=>simp [intOf];omega
      ·obtain rfl:k=4:=by omega
       have xj:¬(4:Int) < 4:=by decide
       clear xb;go_wp2_with fail;go_roundw
       case rel=>exact ⟨i+1,by omega,by go_num,xi.out⟩
       case measure=>simp [intOf];omega
    ·obtain rfl:i=(Y.l 3).length:=by omega
     have xj:¬((Y.l 3).length:Int) < ((Y.l 3).length:Int):=by omega
     clear xc hf;go_wp2_with fail;go_ret;exact⟨rfl,xh.out⟩
section
variable {w:World} {yb:Nat}
theorem nF {c:Nat} {a:Option Addr} (_hyb:yb < w.heap.size) (hc:w.cell? ⟨yb,2,none⟩=some (.slice a 0 c)) :
  Calls prog 37 #[.pointer (some ⟨yb,1,none⟩)] w fun e w'=>e=.returned (.bool true)/\w'=w:=by
 go_enter func37,ntmps37;go_wp2_with fail;go_loopw [3] (fun vi wr=>vi=.int .i64 0/\wr=w) (fun _ _=>0)
 case atStart=>exact ⟨rfl,rfl⟩
 case round =>
  obtain⟨rfl,hw⟩:=hrel;rw[hw];clear hw;go_wp2_with fail;go_loopw [5] (fun vi wr=>∃d:Nat,d<=4/\vi=.int .i64 ((d:Int) - 1)/\wr=w) (fun vi _=>(intOf vi+1).toNat)
  case atStart=>exact ⟨4,by omega,rfl,rfl⟩
  case round =>
   obtain⟨d,hd,rfl,hw⟩:=hrel;rw[hw];clear hw;by_cases h0:d=0
   ·subst h0
    go_wp2_with fail;go_ret;exact⟨rfl,rfl⟩
   ·have xa:(0:Int)<=(d:Int) - 1:=by omega
    go_wp2_with fail;go_loopw [6] (fun vi wr=>vi=.int .i64 0/\wr=w) (fun _ _=>0)
    case atStart=>exact ⟨rfl,rfl⟩
    case round =>
     obtain⟨rfl,hw⟩:=hrel;rw[hw];clear hw;go_wp2_with fail;go_loopw [7] (fun vi wr=>vi=.int .i64 0/\wr=w) (fun _ _=>0)
     case atStart=>exact ⟨rfl,rfl⟩
     case round =>
      obtain⟨rfl,hw⟩:=hrel;rw[hw];clear hw;go_wp2_with fail;go_roundw
      case rel=>exact ⟨d - 1,by omega,by go_num,by first | rfl | trivial⟩
      case measure=>simp [intOf];omega
theorem yP {P:A3} {Y:PlR} (h:Sep P w) (hp:P (0,0)=I2 yb Y) (hL:I9 P Y) (hle:∀j,(Y.l j).length<=1000000000) :
  Calls prog 12 #[.pointer (some ⟨yb,1,none⟩)] w fun e w'=>e=.returned (.bool true)/\Below w.heap.size w w':=by
 have xm:I1 w yb Y:=by have:=h.F (0,0);rw [hp] at this;exact this
 have xg:=xm.me;have xy:=hid xm;have HL:=hid hL;have ya:=hid h;have xo:=hid hle;have ym:Hid (Below w.heap.size w w):=hid (Below.refl _ _);have yi:Hid (∀U,Below w.heap.size w U->Calls prog 37 #[.pointer (some ⟨yb,1,none⟩)] U fun e w'=>e=.returned (.bool true)/\w'=U):=hid fun U hU=>by
  have hr:=xm.row 2 R3 R3;rw[hL.1] at hr;obtain⟨a,c,hv,_⟩:=B4 hr;have hc:=xm.c 2 R3 R3;rw[hv] at hc;exact nF (L0a xg hU.size) (keep hU xg hc)
 have yk:Hid (∀U,Below w.heap.size w U->Calls prog 38 #[.pointer (some ⟨yb,1,none⟩)] U fun e w'=>e=.returned (.bool true)/\Below U.heap.size U w'):=hid fun U hU=>jY (h.below hU) hp hL hle
 clear xm hL h hle hp;go_enter func12,ntmps12;go_wp2_with fail;go_loopw [3] (fun vi wr=>∃i:Nat,i<=(Y.l 4).length/\vi=.int .i64 i/\Below w.heap.size w wr) (fun vi _=>(Y.l 4).length - (intOf vi).toNat)
 case atStart=>exact ⟨0,Nat.zero_le _,rfl,ym.out⟩
 case round =>
  obtain⟨i,hi,rfl,xc⟩:=hrel;have xf:=hid xc;have xv:=xo.out 4;obtain⟨la,lc,f0,hf⟩:=xy.out.list (j:=4) R3 R3;have g0:=keep xc xg f0;by_cases hlt:i < (Y.l 4).length
  ·obtain ⟨nb,xn⟩:∃nb,(Y.l 4)[i]?=some nb:=⟨_,L1b hlt⟩
   obtain⟨ab,rfl,xi,f1⟩:=hf i nb xn;obtain⟨vs,yd,hE⟩:=HL.out.entD ya.out xn;have HE:=hid hE;clear hE;have g1:=keep xc xi f1;have xw:(i:Int) < ((Y.l 4).length:Int):=by omega
   have yl:IntKind.i64.wrap (-7070 - (i:Int)) = -7070 - (i:Int):=Go.IntWalk.i64_in _ (by have:=xo.out 4;omega);clear xc hf;go_wp2_with fail;go_loopw [4] (fun vi wr=>∃k:Nat,k<=4/\vi=.int .i64 k/\Below w.heap.size w wr) (fun vi _=>4 - (intOf vi).toNat)
   case atStart=>exact ⟨0,by omega,rfl,xf.out⟩
   case round =>
    obtain⟨k,hk,rfl,xb⟩:=hrel;have xj:=hid xb;have g2:=keep xb xg f0;have g3:=keep xb xi f1;by_cases hlk:k < 4
    ·obtain ⟨p,hp⟩:∃p,vs[k]?=some p:=⟨_,L1b R4⟩
     obtain⟨f2,xh,pa,pc,xs,xu⟩:=HE.out.get hp;rw[xs] at f2;have yj:=HE.out.small hp;have xp:(k:Int) < 4:=by omega
     clear xb;go_wp2_with fail;go_loopw [5] (fun vi wr=>∃j:Nat,j<=p.2/\vi=.int .i64 j/\Below w.heap.size w wr) (fun vi _=>p.2 - (intOf vi).toNat)
     case atStart=>exact ⟨0,by omega,rfl,xj.out⟩
     case round =>
      obtain⟨j,hj,rfl,xa⟩:=hrel;have xk:=hid xa;have g4:=keep xa xg f0;have g5:=keep xa xi f1;have g6:=keep xa xh f2;by_cases hlj:j < p.2
      ·obtain ⟨b,rfl,xe,xd⟩:=xu R4
       have xr:(j:Int) < (p.2:Int):=by omega
       have z0:=keep xa xe (xd (j*4) R4);rw[show zfr i (j*4)=.int .i64 (-7070 - (i:Int)) by unfold zfr;rw [if_pos R4]] at z0;have z1:=keep xa xe (xd (j*4+1) R4);rw[show zfr i (j*4+1)=.int .i64 0 by unfold zfr;rw [if_neg R4,if_pos R4]] at z1;have z2:=keep xa xe (xd (j*4+2) R4);rw[show zfr i (j*4+2)=.slice none 0 0 by unfold zfr;rw [if_neg R4,if_neg R4]] at z2
       have z3:=keep xa xe (xd (j*4+3) R4);rw[show zfr i (j*4+3)=.slice none 0 0 by unfold zfr;rw [if_neg R4,if_neg R4]] at z3;have xq:w.heap.size<=wr.heap.size:=xa.size;have ye:b < wr.heap.size:=L0a xe xa.size;have xt:b < wr.heap.size+1:=by omega
       clear xa xd;go_wp2_with fail;go_roundw
       case rel=>exact ⟨j+1,by omega,by go_num,by repeat (first | exact xk.out | refine Below.drew ?_ | refine Below.alloc ?_ (by first | (simp;done) | (simp;omega) | omega) _)⟩
       case measure=>simp [intOf];omega
      ·obtain rfl:j=p.2:=by omega
       have xl:¬(p.2:Int) < (p.2:Int):=by omega
       clear xa;go_wp2_with fail;go_roundw
       case rel=>exact ⟨k+1,by omega,by go_num,xk.out⟩
       case measure=>simp [intOf];omega
    ·obtain rfl:k=4:=by omega
     have xl:¬(4:Int) < 4:=by decide
     clear xb;go_wp2_with fail;go_roundw
     case rel=>exact ⟨i+1,by omega,by go_num,xj.out⟩
     case measure=>simp [intOf];omega
  ·obtain rfl:i=(Y.l 4).length:=by omega
   have xl:¬((Y.l 4).length:Int) < ((Y.l 4).length:Int):=by omega
   clear xc hf;go_wp2_with fail;have yh:=hid xf.out;clear xf g0 f0;go_loopw [7] (fun vi wr=>∃i:Nat,i<=(Y.l 5).length/\vi=.int .i64 i/\Below w.heap.size w wr) (fun vi _=>(Y.l 5).length - (intOf vi).toNat)
   case atStart=>exact ⟨0,Nat.zero_le _,rfl,yh.out⟩
   case round =>
    obtain⟨i,hi,rfl,xc⟩:=hrel;have xf:=hid xc;have xv:=xo.out 5;obtain⟨la,lc,f0,hf⟩:=xy.out.list (j:=5) R3 R3;have g0:=keep xc xg f0;by_cases hlt:i < (Y.l 5).length
    ·obtain ⟨nb,xn⟩:∃nb,(Y.l 5)[i]?=some nb:=⟨_,L1b hlt⟩
     obtain⟨ab,rfl,xi,f1⟩:=hf i nb xn;obtain⟨vs,fb,yd,hE,xx⟩:=HL.out.entE ya.out xn;have HE:=hid hE;have yc:=(L2b.1 xx).1;have ff:w.cell? ⟨fb,1,none⟩=some (.int .i64 (-7070 - (i:Int))):=by simp [World.cell?,xx]
     clear hE xx;have g1:=keep xc xi f1;have xw:(i:Int) < ((Y.l 5).length:Int):=by omega
     have yl:IntKind.i64.wrap (-7070 - (i:Int)) = -7070 - (i:Int):=Go.IntWalk.i64_in _ (by have:=xo.out 5;omega);clear xc hf;go_wp2_with fail;go_loopw [8] (fun vi wr=>∃k:Nat,k<=4/\vi=.int .i64 k/\Below w.heap.size w wr) (fun vi _=>4 - (intOf vi).toNat)
     case atStart=>exact ⟨0,by omega,rfl,xf.out⟩
     case round =>
      obtain⟨k,hk,rfl,xb⟩:=hrel;have xj:=hid xb;have g2:=keep xb xg f0;have g3:=keep xb xi f1;by_cases hlk:k < 4
      ·obtain ⟨p,hp⟩:∃p,vs[k]?=some p:=⟨_,L1b R4⟩
       obtain⟨f2,xh,pa,pc,xs,xu⟩:=HE.out.get hp;rw[xs] at f2;have yj:=HE.out.small hp;have xp:(k:Int) < 4:=by omega
       clear xb;go_wp2_with fail;go_loopw [9] (fun vi wr=>∃j:Nat,j<=p.2/\vi=.int .i64 j/\Below w.heap.size w wr) (fun vi _=>p.2 - (intOf vi).toNat)
       case atStart=>exact ⟨0,by omega,rfl,xj.out⟩
       case round =>
        obtain⟨j,hj,rfl,xa⟩:=hrel;have xk:=hid xa;have g4:=keep xa xg f0;have g5:=keep xa xi f1;have g6:=keep xa xh f2;by_cases hlj:j < p.2
        ·obtain ⟨b,rfl,xe,xd⟩:=xu R4
         have xr:(j:Int) < (p.2:Int):=by omega
         have z0:=keep xa xe (xd (j*2) R4);rw[show zob fb (j*2)=.int .u8 9 by unfold zob;rw [if_pos R4]] at z0;have z1:=keep xa xe (xd (j*2+1) R4);rw[show zob fb (j*2+1)=.slice (some ⟨fb,0,none⟩) 1 1 by unfold zob;rw [if_neg R4]] at z1;have zz:=keep xa yc ff;have yn:fb < wr.heap.size:=L0a yc xa.size;have yf:fb < wr.heap.size+1:=by omega
         have xq:w.heap.size<=wr.heap.size:=xa.size;have ye:b < wr.heap.size:=L0a xe xa.size;have xt:b < wr.heap.size+1:=by omega
         clear xa xd;go_wp2_with fail;go_roundw
         case rel=>exact ⟨j+1,by omega,by go_num,by repeat (first | exact xk.out | refine Below.drew ?_ | refine Below.alloc ?_ (by first | (simp;done) | (simp;omega) | omega) _)⟩
         case measure=>simp [intOf];omega
        ·obtain rfl:j=p.2:=by omega
         have xl:¬(p.2:Int) < (p.2:Int):=by omega
         clear xa;go_wp2_with fail;go_roundw
         case rel=>exact ⟨k+1,by omega,by go_num,xk.out⟩
         case measure=>simp [intOf];omega
      ·obtain rfl:k=4:=by omega
       have xl:¬(4:Int) < 4:=by decide
       clear xb;go_wp2_with fail;go_roundw
       case rel=>exact ⟨i+1,by omega,by go_num,xj.out⟩
       case measure=>simp [intOf];omega
    ·obtain rfl:i=(Y.l 5).length:=by omega
     have xl:¬((Y.l 5).length:Int) < ((Y.l 5).length:Int):=by omega
     clear xc hf;go_wp2_with (first | (go_at_call 37;refine (yi.out _ xf.out).mono ?_;rintro e w' ⟨rfl,hw⟩;rw [hw];clear hw w') | (go_at_call 38;refine (yk.out _ xf.out).mono ?_;rintro e w3 ⟨rfl,xz⟩))
     have yg:=hid (xf.out.trans (xz.mono xf.out.size));clear xz;go_wp2_with fail;go_ret;exact⟨rfl,yg.out⟩
end
end Go.Proofs.YtbkmgoffiigdbaaGreatDoor
