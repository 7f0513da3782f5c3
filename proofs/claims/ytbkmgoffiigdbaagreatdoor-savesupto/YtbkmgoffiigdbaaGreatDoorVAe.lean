import Derived.Test.YtbkmgoffiigdbaaGreatDoorVAd
import Derived.Test.YtbkmgoffiigdbaaGreatDoorVAb
namespace Go.Proofs.YtbkmgoffiigdbaaGreatDoor
open Go.RowKit Go.Sort Go.Proofs.Tryz
set_option maxHeartbeats 8000000
set_option maxRecDepth 100000
section
variable {B C e i n sz:Nat} {R:RfR} {U W w:World} {a:Option Addr} {l:List Val} {met:List Nat} {obs:List Ob} {own:Own} {v:Value} {xs:List Value}
def ThR.abs (o:ThR):Int × List Val:=(o.kind,o.fl)
def RfR.abs (R:RfR):McA:=⟨R.st,R.out,R.frs.map FrR.abs,R.ths.map ThR.abs,R.dr⟩
theorem N7.src (h:N7 W B a l):0 < l.length->∃d,a=some d/\∀j u,(A7 l)[j]?=some u->W.cell? (d.add j)=some u:=fun h0=>by
 obtain⟨b,rfl,hb,hc⟩:=h h0;refine⟨_,rfl,fun j u hu=>?_⟩;have hj:=(L1a.1 hu).1;rw[D8] at hj;obtain⟨x,hx⟩:∃x,l[j / 2]?=some x:=⟨_,L1b R5⟩
 have hg:=D3 E6 hx (show j % 2 < 2 by omega);rw[show j / 2*2+j % 2=j by omega] at hg;obtain⟨c0,c1⟩:=hc _ x hx;have xa:(O9 x)[j % 2]?=some u:=hg.symm.trans hu;rw[X8];rcases Nat.mod_two_eq_zero_or_one j with e | e
 ·rw [e] at xa
  rw[show j=j / 2*2 by omega,c0];exact xa
 ·rw [e] at xa
  rw[show j=j / 2*2+1 by omega,c1];exact xa
theorem N7.later (h:N7 W B a l) (hB:Below B W U):N7 U B a l:=fun h0=>by
 obtain⟨b,e,hb,hc⟩:=h h0;refine⟨b,e,hb,fun i x hx=>?_⟩;rw[hB.cell (p:=⟨b,_,none⟩) hb,hB.cell (p:=⟨b,_,none⟩) hb];exact hc i x hx
theorem Row.vals {t:Tag} (h:Row w own t 92 2 v l.length (A7 l)):∃a cp,v=.slice a l.length cp/\l.length<=cp/\N7 w w.heap.size a l:=by
 obtain⟨a,cp,e,xb,hc⟩:=Row.cells E6 h;refine⟨a,cp,e,xb,fun h0=>?_⟩;obtain⟨b,e1,hb,_,_,xa⟩:=hc h0;exact⟨b,e1,hb,fun i x hx=>⟨xa i 0 x _ hx R4 rfl,xa i 1 x _ hx R4 rfl⟩⟩
theorem mP (l:List FrA) (k:Nat) (h:∀f,f∈l->f.loc.length<=k/\f.stk.length<=k):(C6 l).length<=l.length*(2*k):=by
 induction l with
 | nil=>simp [C6]
 | cons f l ih =>
  have h1:=ih fun x hx=>h x (by simp [hx])
  have h2:=h f R6;unfold C6 at h1 ⊢;simp only[List.flatMap_cons,List.length_append,List.length_cons];rw[Nat.add_mul];omega
theorem uI {l:List FrA} {f:FrA} (h:l[i]?=some f):C6 (l.take (i+1))=C6 (l.take i)++f.loc++f.stk:=by
 have e:l.take (i+1)=l.take i++[f]:=by rw [List.take_add_one,h];rfl
 rw[e];simp[C6,List.append_assoc]
structure iA (R:RfR):Prop where
 frs:R.frs.length<=1000
 loc:∀f,f∈R.frs->f.loc.length<=1000/\f.stk.length<=1000
 ths:R.ths.length<=100000000000
 fld:∀o,o∈R.ths->o.fl.length<=1000
structure dX (R:RfR):Prop where
 vals:∀v,v∈C6 (R.frs.map FrR.abs)->v.1=2->0<=v.2/\v.2.toNat < R.ths.length
 flds:∀o,o∈R.ths->∀v,v∈o.fl->v.1=2->0<=v.2/\v.2.toNat < R.ths.length
theorem dX.within (h:dX R):iQ R.abs.obs:=fun o ho v hv h2=>by
 obtain⟨p,hp,rfl⟩:=List.mem_map.1 ho;show _ < (R.ths.map ThR.abs).length;rw[List.length_map];exact (h.flds p hp v hv h2).2
theorem dX.roots (h:dX R):∀v,v∈C6 R.abs.frs->v.1=2->v.2.toNat < R.abs.obs.length:=fun v hv h2=>by
 show _ < (R.ths.map ThR.abs).length;rw[List.length_map];exact (h.vals v hv h2).2
theorem a0v {α:Type} {c:α->List Value} (hc:∀x,(c x).length=sz) {w:World} {B e:Nat} {v:Value} {l:List α} (h:w.ownsRow B e sz v l.length (l.flatMap c)) :
  ∃a cp,v=.slice a l.length cp/\l.length<=cp/\(0 < l.length->∃b,a=some ⟨b,0,none⟩/\B<=b/\b < w.heap.size/\(∀j,w.frozen? ⟨b,j,none⟩=false)/\∀(i j:Nat) (x:α) (u:Value),l[i]?=some x->j < sz->(c x)[j]?=some u->w.cell? ⟨b,i*sz+j,none⟩=some u):=by
 rcases h.2 with ⟨rfl,h0⟩ | ⟨g,xa,xc,rfl,hB,hg,h3,h4,h5,h6⟩
 ·exact ⟨none,0,by rw [h0],by omega,fun hp=>by omega⟩
 ·refine ⟨_,xa,rfl,h3,fun _=>⟨g,rfl,hB,(L2b.1 hg).1,fun j=>by simp [World.frozen?,hg],fun i j x u hx hj hu=>?_⟩⟩
  have h7:=D3 hc hx hj;rw[hu,<- h6] at h7;have xb:i*sz+j < l.length*sz:=by
   have h8:=(L1a.1 hx).1;have:(i+1)*sz<=l.length*sz:=Nat.mul_le_mul_right _ h8;rw[Nat.succ_mul] at this;omega
  rw[List.getElem?_take,if_pos xb] at h7;simp only[World.cell?,hg];simpa using h7
theorem lR (h:w.ownsRow B 92 2 v l.length (A7 l)):∃a cp,v=.slice a l.length cp/\l.length<=cp/\N7 w w.heap.size a l:=by
 obtain⟨a,cp,e,xb,hc⟩:=a0v E6 h;refine⟨a,cp,e,xb,fun h0=>?_⟩;obtain⟨b,e1,_,hb,_,xa⟩:=hc h0;exact⟨b,e1,hb,fun i x hx=>⟨xa i 0 x _ hx R4 rfl,xa i 1 x _ hx R4 rfl⟩⟩
theorem jE (h:w.ownsRow B e sz v n xs) (hb:L0d w U):U.ownsRow B e sz v n xs:=by
 refine⟨h.1,?_⟩;rcases h.2 with h2 | ⟨g,cap,cur,q1,q2,q3,q4⟩
 ·exact L4a h2
 ·exact L4b ⟨g,cap,cur,q1,q2,(hb.block g (L2b.1 q3).1).trans q3,q4⟩
theorem eE (h:w.ownsRow B e sz v n xs) (hc:C<=B):w.ownsRow C e sz v n xs:=by
 refine⟨h.1,?_⟩;rcases h.2 with h2 | ⟨g,cap,cur,q1,q2,q3⟩
 ·exact L4a h2
 ·exact L4b ⟨g,cap,cur,q1,L5a hc q2,q3⟩
theorem N7.mono (h:N7 W B a l) (hB:B<=C):N7 W C a l:=fun h0=>by
 obtain⟨b,e,hb,hc⟩:=h h0;exact⟨b,e,L0a hb hB,hc⟩
theorem yK (R:RfR):A0 R.abs=G8 (R.ths.map ThR.abs) (R.ths.map ThR.abs).length 0 (C1 [] (C6 (R.frs.map FrR.abs))):=rfl
theorem a1m {j:Nat} {o:Ob} (hi:met[i]?=some j) (ho:obs[j]?=some o):G8 obs (n+1) i met=G8 obs n (i+1) (if o.1=3 then met else C1 met o.2):=by
 rw[G8,hi];simp only[ho]
theorem a4g : G8 obs n met.length met=met:=by
 cases n with
 | zero=>rfl
 | succ n=>rw [G8,List.getElem?_eq_none (L1c _)]
theorem a1o (h:∀v,v∈l->v.1=2->v.2.toNat < obs.length):eO obs 0 (C1 [] l) :=
 ⟨W0 l [] R6,cM R6 h,fun k j hk=>by omega⟩
theorem cG {mb:Nat} {g:PgR} (h:A9 W own mb g R) (hb:iA R) (hr:dX R) :
  Calls prog 86 #[zB mb] W fun e w'=>∃v,e=.returned v/\w'.ownsRow W.heap.size 3 1 v (A0 R.abs).length (Y4 (A0 R.abs))/\L0d W w':=by
 obtain⟨xq,hi,hz,yh,yt⟩:=info_parts J2;have HI:=hid hi;have HZ:=hid hz;have yl:=hid yh;have yy:=hid yt;have hm:=h.lt _ _ h.me;obtain⟨ca,qb,yw,_,yu⟩:=Row.cells FrR.cells_len h.called;obtain⟨ta,zy,yr,_,yf⟩:=Row.cells ThR.cells_len h.things;have HC:=hid yu;have HT:=hid yf;have zj:=hid h.loc;have zk:=hid h.stk;have za:=hid h.fld;have m4:=h.c4;have m5:=h.c5;rw[yw] at m4;rw[yr] at m5
 have M5:=hid m5;have M4:=hid m4;have xv:=hid hb;have xs:=hid hr;have zz:=hb.frs;have zl:(R.frs.length:Int)<=1000:=by omega
 have zn:=hb.ths;clear hi hz yh yt yu yf h m5 m4 hb hr yw yr;go_enter func86,ntmps86;go_wp2_with fail;go_loopw [3,4] (fun vl vi wr=>∃i:Nat,i<=R.frs.length/\vi=J i/\wr.ownsRow W.heap.size 92 2 vl (C6 ((R.frs.map FrR.abs).take i)).length (A7 (C6 ((R.frs.map FrR.abs).take i)))/\L0d W wr) (fun _ vi _=>R.frs.length - (intOf vi).toNat)
 case atStart=>exact ⟨0,L4c _,rfl,World.ownsRow_nil _ _ _ _,L3b _ _⟩
 case round =>
  obtain⟨i,hi,rfl,xb,xa⟩:=hrel;have xd:=hid xa;have xf:=hid xb;have qc:mb < wr.heap.size:=L0a hm xa.size;have m4:=keep xa hm M4.out;by_cases hlt:i < R.frs.length
  ·obtain ⟨f,hf⟩:∃f,R.frs[i]?=some f:=⟨_,L1b hlt⟩
   obtain⟨cb,rfl,xx,_,_,ya⟩:=HC.out R5;obtain⟨la,lc,yn,_,hl⟩:=(zj.out i f hf).vals;obtain⟨sa,sc,yk,_,hs⟩:=(zk.out i f hf).vals;have k2:=ya i 2 f _ hf R4 rfl;have k3:=ya i 3 f _ hf R4 rfl;rw[yn] at k2;rw[yk] at k3;have zi:=hid ((hl.later xd.out).src);have zh:Hid (∀U,L0d W U->(0 < f.stk.length->∃d,sa=some d/\∀j u,(A7 f.stk)[j]?=some u->U.cell? (d.add j)=some u)):=fun U hU=>(hs.later hU).src
   have ze:=hid k3;rw[<- xa.cell (p:=⟨cb,_,none⟩) xx] at k2 k3;have zs:cb < wr.heap.size:=L0a xx xa.size;have zv:=xv.out.loc f (L2a hf);have xr:=mP ((R.frs.map FrR.abs).take i) 1000 fun x hx=>by
    obtain⟨y,hy,rfl⟩:=List.mem_map.1 (List.mem_of_mem_take hx);exact xv.out.loc y hy
   rw[List.length_take,List.length_map] at xr;have zm:(C6 ((R.frs.map FrR.abs).take i)).length<=2000000:=by
    have:min i R.frs.length*(2*1000)<=1000*(2*1000):=Nat.mul_le_mul_right _ R5;omega
   have yz:=hid (uI (l:=R.frs.map FrR.abs) (i:=i) (f:=f.abs) (by rw [List.getElem?_map,hf];rfl));clear xb xa hf xr ya hl hs yn yk;have zt:W.heap.size<=wr.heap.size:=xd.out.size;go_wp2_with (at_builtin;go_must (refine A8 _ rfl (.tmp 17) (.tmp 25) 84 rfl W.heap.size 92 xq _ 2 16 underlying84 HI.out HZ.out yl.out yy.out rfl R4 _ (C6 ((R.frs.map FrR.abs).take i)).length (A7 (C6 ((R.frs.map FrR.abs).take i))) rfl xf.out la f.loc.length lc (A7 f.loc) rfl (D8 _) zi.out (aH _) Q7 R5 R5 ?_))
   intro v1 w1 hown1 hgrow1 _;have xm:=M8 xd.out xf.out hgrow1;have r3:=(xm.cell (p:=⟨cb,i*4+3,none⟩) xx).trans ze.out;have qa:cb < w1.heap.size:=L0a xx xm.size;have zw:W.heap.size<=w1.heap.size:=xm.size;have n4:=keep xm hm M4.out;have zc:mb < w1.heap.size:=L0a hm xm.size;have xt:=hid xm;have xy:=hid hown1;clear xm hown1 hgrow1 k2 k3;go_wp2_with (at_builtin;go_must (refine A8 _ rfl (.tmp 27) (.tmp 35) 84 rfl W.heap.size 92 xq _ 2 16 underlying84 HI.out HZ.out yl.out yy.out rfl R4 _ ((C6 ((R.frs.map FrR.abs).take i)).length+f.loc.length) (A7 (C6 ((R.frs.map FrR.abs).take i))++A7 f.loc) rfl xy.out sa f.stk.length sc (A7 f.stk) rfl (D8 _) (zh.out _ xt.out) (aH _) Q7 R5 R5 ?_))
   intro v2 w2 hown2 hgrow2 _;have yd:=hid (M8 xt.out xy.out hgrow2);have yb:=hid hown2;clear hown2 hgrow2 r3 n4 m4;go_wp2_with fail;go_roundw
   case rel=>exact ⟨i+1,by omega,by go_num,by
    rw[yz.out,J7,J7,List.length_append,List.length_append,List.append_assoc];exact yb.out,yd.out⟩
   case measure=>simp [intOf];omega
  ·obtain rfl:i=R.frs.length:=by omega
   obtain⟨wB,zg⟩:∃wB,wB=wr:=⟨_,rfl⟩
   subst zg;have hq:(R.frs.map FrR.abs).take R.frs.length=R.frs.map FrR.abs:=by rw [<- List.length_map (f:=FrR.abs),List.take_length]
   rw[hq] at xf;have xr:=mP (R.frs.map FrR.abs) 1000 fun x hx=>by
    obtain⟨y,hy,rfl⟩:=List.mem_map.1 hx;exact xv.out.loc y hy
   rw[List.length_map] at xr;obtain⟨ra,rc,rfl,_,xn⟩:=lR xf.out;have xz:Hid (Calls prog 127 #[zD,.slice ra (C6 (R.frs.map FrR.abs)).length rc] wB fun e w'=>∃v',e=.returned v'/\w'.ownsRow wB.heap.size 3 1 v' (C1 [] (C6 (R.frs.map FrR.abs))).length (Y4 (C1 [] (C6 (R.frs.map FrR.abs))))/\L0d wB w'):=hid (a1J (met:=[]) (L1c _) (World.ownsRow_nil _ _ _ _) xn (fun u hu h2=>(xs.out.vals u hu h2).1) Q9)
   have yc:=hid (a1o (obs:=R.ths.map ThR.abs) (l:=C6 (R.frs.map FrR.abs)) xs.out.roots);have xh:=xd.out.size;clear xb xa hq xr xn;go_wp2_with (go_at_call 127;refine xz.out.mono ?_;rintro e w1 ⟨v1,rfl,yj,yx⟩)
   have xy:=hid yj;have xt:=hid yx;clear yj yx m4;go_wp2_with fail;go_loopw [5,6] (fun vl vi wr=>∃(i:Nat) (met:List Nat),i<=met.length/\vi=J i/\wr.ownsRow wB.heap.size 3 1 vl met.length (Y4 met)/\L0d wB wr/\eO (R.ths.map ThR.abs) i met/\A0 R.abs=G8 (R.ths.map ThR.abs) ((R.ths.map ThR.abs).length - i) i met) (fun _ vi _=>R.ths.length - (intOf vi).toNat)
   case atStart=>exact ⟨0,_,L4c _,rfl,xy.out,xt.out,yc.out,yK R⟩
   case round =>
    obtain⟨i,met,hi,rfl,xb,xa,xl,xu⟩:=hrel;obtain⟨la,lc,rfl,xe⟩:=O8 xb;have zf:met.length<=R.ths.length:=by
     have:=L7 xl.nodup xl.lt;rw[List.length_map] at this;exact this
    have xj:=hid xb;have xc:=hid xa;have zq:=hid xl;have yv:=hid xu;by_cases hlt:i < met.length
    ·obtain ⟨j,hj⟩:∃j,met[i]?=some j:=⟨_,L1b hlt⟩
     have yi:=xl.lt j (L2a hj);rw[List.length_map] at yi;obtain⟨o,ho⟩:∃o,R.ths[j]?=some o:=⟨_,L1b yi⟩
     have ye:(R.ths.map ThR.abs)[j]?=some o.abs:=by rw [List.getElem?_map,ho];rfl
     have xk:=hid (a1m (n:=(R.ths.map ThR.abs).length - (i+1)) hj ye);have ym:=hid (xl.next xs.out.within hj ye);have yg:(R.ths.map ThR.abs).length - i=(R.ths.map ThR.abs).length - (i+1)+1:=by rw [List.length_map];omega
     obtain⟨lb,lo,rfl,zx,xo⟩:=xe (by rw [List.length_map];omega);have x0:=xo i (j:Int) (by rw [List.getElem?_map,hj];rfl);obtain⟨tb,rfl,xw,_,_,xg⟩:=HT.out R5;have xi:L0d W wr:=Below.trans xd.out (xa.mono xh);have t0:wr.cell? ⟨tb,j*3,none⟩=some (zC o.kind):=keep xi xw (xg j 0 o _ ho R4 rfl);have t1:wr.cell? ⟨tb,j*3+1,none⟩=some o.fv:=keep xi xw (xg j 1 o _ ho R4 rfl)
     have t2:wr.cell? ⟨tb,j*3+2,none⟩=some (J o.slot):=keep xi xw (xg j 2 o _ ho R4 rfl);have m5:=keep xi hm M5.out;have zr:mb < wr.heap.size:=L0a hm xi.size;have zu:tb < wr.heap.size:=L0a xw xi.size;obtain⟨fa,fc,ys,_,yo⟩:=(za.out j o ho).vals;rw[ys] at t1;have zb:(j:Int) < (R.ths.length:Int):=by omega
     have zp:=xv.out.fld o (L2a ho);have HM:Hid (∀U,L0d wr U->Calls prog 127 #[.slice (some ⟨lb,lo,none⟩) met.length lc,.slice fa o.fl.length fc] U fun e w'=>∃v',e=.returned v'/\w'.ownsRow wB.heap.size 3 1 v' (C1 met o.fl).length (Y4 (C1 met o.fl))/\Below wB.heap.size U w'):=hid fun U hU=>a1J (L5a xa.size hU.size) (jE xb hU) ((yo.later (Below.trans xi (hU.mono xi.size))).mono xh) (fun u hu h2=>(xs.out.flds o (L2a ho) u hu h2).1) R5
     generalize hkd:o.kind=kd at *
     clear xb xa xl xu xe xo xg yo ys ye xi;by_cases h3:kd=3
     ·subst h3
      go_wp2_with fail;go_region
      go_wp2_with fail;go_roundw
      case rel =>
       have hX:∀{X:World},L0d wr X->X.ownsRow wB.heap.size 3 1 (.slice (some ⟨lb,lo,none⟩) met.length lc) met.length (Y4 met)/\L0d wB X:=fun hX=>⟨jE xj.out hX,xc.out.trans (hX.mono xc.out.size)⟩
       have hN:=ym.out;have hS:=xk.out;rw[if_pos (show o.abs.1=3 from hkd)] at hN hS;exact⟨i+1,met,by omega,by go_num,(hX P4).1,(hX P4).2,hN,by rw [yv.out,yg,hS]⟩
      case measure=>simp [intOf];omega
     ·have zo:(kd == 3)=false:=L2c.2 h3
      go_wp2_with fail;go_region
      go_wp2_with (go_at_call 127;refine (HM.out _ P4).mono ?_;rintro e w2 ⟨v2,rfl,yp,yq⟩)
      have yb:=hid yp;have yd:Hid (L0d wB w2):=hid (xc.out.trans ((Below.mono P4 xc.out.size).trans yq));clear yp yq;have zd:=(kN o.fl met).length_le;have hN:=hid ym.out
      have hS:=hid xk.out;rw[if_neg (show ¬o.abs.1=3 from fun e=>h3 (hkd.symm.trans e))] at hN hS;have xp:i+1<=(C1 met o.fl).length:=by omega
      go_wp2_with fail;go_roundw
      case rel=>exact ⟨i+1,C1 met o.fl,xp,by go_num,yb.out,yd.out,hN.out,by rw [yv.out,yg,hS.out];rfl⟩
      case measure=>simp [intOf];omega
    ·obtain rfl:i=met.length:=by omega
     have HE:Hid (A0 R.abs=met):=hid (xu.trans a4g);clear xb xa xl xu xe;go_wp2_with fail;go_ret;exact⟨_,rfl,by rw [HE.out];exact eE xj.out xh,Below.trans xd.out (xc.out.mono xh)⟩
end
section
variable {al:List Nat} {fb fc i j mb tb tc:Nat} {g:PgR} {l:List ThR} {o:ThR} {own:Own} {w w':World} {x:Int}
theorem A9.setFld {R:RfR} {o:ThR} {l:List Val} (h:A9 w own mb g R) (hj:R.ths[j]?=some o) (hfv:o.fv=.slice (zA fb) o.fl.length fc) (hofb:own fb=some (.fld j)) (hsize:w.heap.size=w'.heap.size) (hk:∀k,k≠fb->w'.heap[k]?=w.heap[k]?) (hlen:l.length=o.fl.length)
  (hrow:w'.ownsRow 0 92 2 (.slice (zA fb) o.fl.length fc) o.fl.length (A7 l)):A9 w' own mb g { R with ths:=R.ths.set j { o with fl:=l } }:=by
 have xf:=h.lt;have keep:∀t,t≠.fld j->∀k,own k=some t->w'.heap[k]?=w.heap[k]?/\own k=some t:=fun t ht k hk'=>⟨hk k (fun e=>by rw [e,hofb] at hk';exact ht (L5b hk').symm),hk'⟩
 have xb:=(keep .mach R6 mb h.me).1;have xa:∀k,own k=none->w'.heap[k]?=w.heap[k]?:=fun k hk'=>hk k (fun e=>by rw [e,hofb] at hk';cases hk')
 have xc:=(L1a.1 hj).1;have xe:(R.ths.set j { o with fl:=l }).flatMap ThR.cells=R.ths.flatMap ThR.cells:=by
  have e:=I7 (c:=ThR.cells) ThR.cells_len (l:=R.ths) (i:=j) (j:=0) (x:=o) (y:={ o with fl:=l }) (u:=zC o.kind) hj R5 rfl;rw[e];have hg:(R.ths.flatMap ThR.cells)[j*3+0]?=some (zC o.kind):=D3 ThR.cells_len hj R5;obtain⟨hl,xd⟩:=L1a.1 hg;rw[<- xd];exact List.set_getElem_self hl
 have kc:∀i x,w.cell? ⟨mb,i,none⟩=some x->w'.cell? ⟨mb,i,none⟩=some x:=fun i x hx=>by rw [L0b (w:=w) (a:=⟨mb,i,none⟩) xb];exact hx
 refine⟨fun k t hk'=>by rw [<- hsize];exact xf k t hk',h.me,kc _ _ h.c0,kc _ _ h.c1,kc _ _ h.c2,kc _ _ h.c3,kc _ _ h.c4,kc _ _ h.c5,kc _ _ h.c6,fun i=>by rw [L0c (w:=w) (a:=⟨mb,i,none⟩) xb];exact h.fz i,h.out.kept (keep _ R6),h.called.kept (keep _ R6),?_,fun i x hx=>(h.loc i x hx).kept (keep _ R6),fun i x hx=>(h.stk i x hx).kept (keep _ R6),fun i x hx=>?_,h.pg.held (Nat.le_of_eq hsize) fun k hb=>xa k (h.ro k hb),h.ro,h.ro0,h.dle,fun h0=>?_,fun b o e=>by rw [<- hsize];exact h.dro b o e⟩
 ·have:=h.things.kept (own':=own) (w':=w') (keep _ R6)
  show Row w' own .slots 100 3 R.hv (R.ths.set j { o with fl:=l }).length ((R.ths.set j { o with fl:=l }).flatMap ThR.cells);rw[xe,List.length_set];exact this
 ·by_cases e:i=j
  ·subst e
   obtain rfl:{ o with fl:=l }=x:=by rw [List.getElem?_set_self xc] at hx;exact L5b hx
   show Row w' own (.fld i) 92 2 o.fv l.length (A7 l);rw[hfv,hlen]
   exact⟨hrow,fun b hb=>by obtain rfl:fb=b:=by simpa [Value.ownBlock] using hb
                           exact hofb⟩
  ·rw [List.getElem?_set_ne (Ne.symm e)] at hx
   exact (h.fld i x hx).kept (keep _ (by simpa using e))
 ·obtain ⟨b,q,e,hb,hc⟩:=h.draws h0
  exact⟨b,q,e,by rw [<- hsize];exact hb,fun i x hx=>(L0b (w:=w) (a:=⟨b,q+i,none⟩) (xa b (h.dro b q e).2)).trans (hc i x hx)⟩
theorem A9.setTh {R:RfR} {p:ThR} (h:A9 w own mb g R) (hj:R.ths[j]?=some o) (hfv:p.fv=o.fv) (hfl:p.fl=o.fl) (htv:R.hv=.slice (zA tb) R.ths.length tc) (hotb:own tb=some .slots) (hsize:w.heap.size=w'.heap.size) (hk:∀k,k≠tb->w'.heap[k]?=w.heap[k]?)
  (hrow:w'.ownsRow 0 100 3 (.slice (zA tb) R.ths.length tc) R.ths.length ((R.ths.set j p).flatMap ThR.cells)):A9 w' own mb g { R with ths:=R.ths.set j p }:=by
 have xd:=h.lt;have keep:∀t,t≠.slots->∀k,own k=some t->w'.heap[k]?=w.heap[k]?/\own k=some t:=fun t ht k hk'=>⟨hk k (fun e=>by rw [e,hotb] at hk';exact ht (L5b hk').symm),hk'⟩
 have xb:=(keep .mach R6 mb h.me).1;have xa:∀k,own k=none->w'.heap[k]?=w.heap[k]?:=fun k hk'=>hk k (fun e=>by rw [e,hotb] at hk';cases hk')
 have xc:=(L1a.1 hj).1;have kc:∀i x,w.cell? ⟨mb,i,none⟩=some x->w'.cell? ⟨mb,i,none⟩=some x:=fun i x hx=>by rw [L0b (w:=w) (a:=⟨mb,i,none⟩) xb];exact hx
 refine⟨fun k t hk'=>by rw [<- hsize];exact xd k t hk',h.me,kc _ _ h.c0,kc _ _ h.c1,kc _ _ h.c2,kc _ _ h.c3,kc _ _ h.c4,kc _ _ h.c5,kc _ _ h.c6,fun i=>by rw [L0c (w:=w) (a:=⟨mb,i,none⟩) xb];exact h.fz i,h.out.kept (keep _ R6),h.called.kept (keep _ R6),?_,fun i x hx=>(h.loc i x hx).kept (keep _ R6),fun i x hx=>(h.stk i x hx).kept (keep _ R6),fun i x hx=>?_,h.pg.held (Nat.le_of_eq hsize) fun k hb=>xa k (h.ro k hb),h.ro,h.ro0,h.dle,fun h0=>?_,fun b o e=>by rw [<- hsize];exact h.dro b o e⟩
 ·show Row w' own .slots 100 3 R.hv (R.ths.set j p).length ((R.ths.set j p).flatMap ThR.cells)
  rw[List.length_set,htv]
  exact⟨hrow,fun b hb=>by obtain rfl:tb=b:=by simpa [Value.ownBlock] using hb
                          exact hotb⟩
 ·by_cases e:i=j
  ·subst e
   obtain rfl:p=x:=by rw [List.getElem?_set_self xc] at hx;exact L5b hx
   rw[hfv,hfl];exact (h.fld i o hj).kept (keep _ R6)
  ·rw [List.getElem?_set_ne (Ne.symm e)] at hx
   exact (h.fld i x hx).kept (keep _ R6)
 ·obtain ⟨b,q,e,hb,hc⟩:=h.draws h0
  exact⟨b,q,e,by rw [<- hsize];exact hb,fun i x hx=>(L0b (w:=w) (a:=⟨b,q+i,none⟩) (xa b (h.dro b q e).2)).trans (hc i x hx)⟩
theorem A9.putFld {R:RfR} {o:ThR} {x y:Val} (h:A9 w own mb g R) (hj:R.ths[j]?=some o) (hi:o.fl[i]?=some x) (hfv:o.fv=.slice (zA fb) o.fl.length fc) (hofb:own fb=some (.fld j)) :
  A9 ((w.setCell ⟨fb,i*2,none⟩ (zC y.1)).setCell ⟨fb,i*2+1,none⟩ (J y.2)) own mb g { R with ths:=R.ths.set j { o with fl:=o.fl.set i y } } /\
   A2 own w own ((w.setCell ⟨fb,i*2,none⟩ (zC y.1)).setCell ⟨fb,i*2+1,none⟩ (J y.2)):=by
 have hl:=h.fld j o hj;rw[hfv] at hl;have hr:=(World.ownsRow.stored (World.ownsRow.stored hl.1 (i*2) (zC y.1)).1 (i*2+1) (J y.2)).1;rw[<- eL hi] at hr;have xa:∀k,k≠fb->((w.setCell ⟨fb,i*2,none⟩ (zC y.1)).setCell ⟨fb,i*2+1,none⟩ (J y.2)).heap[k]?=w.heap[k]?:=fun k hk=>by
  rw[heap_setCell_other _ _ _ _ hk,heap_setCell_other _ _ _ _ hk]
 exact⟨h.setFld hj hfv hofb R6 xa R6 hr,⟨rfl,rfl,rfl,by simp,fun k hk hno=>xa k (fun e=>by rw [e,hofb] at hno;cases hno),fun _ _=>rfl⟩⟩
theorem A9.putSlot {R:RfR} {o:ThR} (h:A9 w own mb g R) (hj:R.ths[j]?=some o) (htv:R.hv=.slice (zA tb) R.ths.length tc) (hotb:own tb=some .slots) :
  A9 (w.setCell ⟨tb,j*3+2,none⟩ (J x)) own mb g { R with ths:=R.ths.set j { o with slot:=x } }/\A2 own w own (w.setCell ⟨tb,j*3+2,none⟩ (J x)):=by
 have hl:=h.things;rw[htv] at hl;have hr:=(World.ownsRow.stored hl.1 (j*3+2) (J x)).1;rw[<- I7 (c:=ThR.cells) ThR.cells_len (l:=R.ths) (i:=j) (j:=2) (x:=o) (y:={ o with slot:=x }) (u:=J x) hj R5 rfl] at hr;have xa:∀k,k≠tb->(w.setCell ⟨tb,j*3+2,none⟩ (J x)).heap[k]?=w.heap[k]?:=fun k hk=>heap_setCell_other _ _ _ _ hk
 exact⟨h.setTh hj rfl rfl htv hotb R6 xa hr,⟨rfl,rfl,rfl,by simp,fun k hk hno=>xa k (fun e=>by rw [e,hotb] at hno;cases hno),fun _ _=>rfl⟩⟩
def aP (al:List Nat) (i:Nat) (o:ThR):ThR:={ o with fl:=(I1 al i o.abs).2,slot:=if i∈al then o.slot else -1 }
def L0 (al:List Nat) (n:Nat) (l:List ThR):List ThR:=l.mapIdx fun i o=>if i < n then aP al i o else o
theorem aX (al:List Nat) (n:Nat) (l:List ThR) (i:Nat):(L0 al n l)[i]?=(l[i]?).map fun o=>if i < n then aP al i o else o:=by simp [L0,List.getElem?_mapIdx]
theorem cF (al:List Nat) (n:Nat) (l:List ThR):(L0 al n l).length=l.length:=by simp [L0]
theorem yZ (al:List Nat) (l:List ThR):L0 al 0 l=l:=by
 refine List.ext_getElem? fun i=>?_
 rw[aX];simp
theorem yY (h:l[i]?=some o):L0 al (i+1) l=(L0 al i l).set i (aP al i o):=by
 refine List.ext_getElem? fun k=>?_
 have xa:=(L1a.1 h).1;by_cases e:i=k
 ·subst e
  rw[List.getElem?_set_self (by rw [cF];exact xa),aX,h,Option.map_some,if_pos R5]
 ·rw [List.getElem?_set_ne e,aX,aX]
  have:(k < i+1)=(k < i):=propext R5;simp only[this]
theorem a4M (h:l[i]?=some o):(L0 al i l)[i]?=some o:=by
 rw[aX,h,Option.map_some,if_neg R5]
theorem rF (al:List Nat) (l:List ThR):(L0 al l.length l).map ThR.abs=W7 al (l.map ThR.abs)/\(L0 al l.length l).map ThR.slot=T6 al (l.map ThR.slot):=by
 constructor
 ·refine List.ext_getElem? fun i=>?_
  rw[List.getElem?_map,aX,Z8,List.getElem?_map]
  cases h:l[i]? with
  | none=>rfl
  | some o =>
   rw[Option.map_some,Option.map_some,Option.map_some,Option.map_some,if_pos (L1a.1 h).1];refine congrArg some (Prod.ext ?_ rfl);exact (X9 al i o.abs).symm
 ·refine List.ext_getElem? fun i=>?_
  rw[List.getElem?_map,aX,bG,List.getElem?_map]
  cases h:l[i]? with
  | none=>rfl
  | some o =>
   rw[Option.map_some,Option.map_some,Option.map_some,Option.map_some,if_pos (L1a.1 h).1];rfl
def fY (sl:List Int) (al:List Nat) (n:Nat):Nat:=((List.range n).filter fun i=>decide (i∉al) && ((sl[i]?).map fun x=>decide (0<=x)).getD false).length
theorem zT (sl:List Int) (al:List Nat):fY sl al sl.length=iZ sl al:=rfl
theorem wC {sl:List Int} (h:sl[i]?=some x):fY sl al (i+1)=fY sl al i+if i∉al/\0<=x then 1 else 0:=by
 unfold fY;rw[List.range_succ,List.filter_append,List.length_append,List.filter_cons,h];by_cases h1:i∈al
 ·simp [h1]
 ·by_cases h2:0<=x <;> simp [h1,h2]
theorem a2D (sl:List Int) (al:List Nat) (n:Nat):fY sl al n<=n:=by
 have:=List.length_filter_le (fun i=>decide (i∉al) && ((sl[i]?).map fun x=>decide (0<=x)).getD false) (List.range n);rw[List.length_range] at this;exact this
end
section
variable {B e i n sz:Nat} {al:List Nat} {o:ThR} {own:Own} {v:Value} {w:World} {xs:List Value}
theorem gV (h:¬(i∈al/\o.kind=3/\(o.fl.headD (0,0)).1=2/\(o.fl.headD (0,0)).2.toNat∉al)):(I1 al i o.abs).2=o.fl:=by
 unfold I1;rw[if_neg (show ¬(i∈al/\o.abs.1=3/\(o.abs.2.headD (0,0)).1=2/\(o.abs.2.headD (0,0)).2.toNat∉al) from h)];rfl
theorem zP (h:i∈al/\o.kind=3/\(o.fl.headD (0,0)).1=2/\(o.fl.headD (0,0)).2.toNat∉al):(I1 al i o.abs).2=o.fl.set 0 (0,0):=by
 unfold I1;rw[if_pos (show i∈al/\o.abs.1=3/\(o.abs.2.headD (0,0)).1=2/\(o.abs.2.headD (0,0)).2.toNat∉al from h)];rfl
theorem tJ {own':Own} {U:World} (h:w.ownsRow B e sz v n xs) (ht:A2 own w own' U) (ho:∀k,B<=k->own k=none):U.ownsRow B e sz v n xs:=by
 refine⟨h.1,?_⟩;rcases h.2 with h2 | ⟨g,cap,cur,q1,q2,q3,q4⟩
 ·exact L4a h2
 ·exact L4b ⟨g,cap,cur,q1,q2,(ht.block g (L2b.1 q3).1 (ho g q2)).trans q3,q4⟩
theorem bK {α:Type} {l:List α} {o:α} (h:l[i]?=some o):l.set i o=l:=by
 obtain⟨hl,e⟩:=L1a.1 h;rw[<- e];exact List.set_getElem_self hl
theorem tY {b:Nat} (h:w.ownsRow B e sz v n xs) (hv:v.ownBlock=some b) (j:Nat):w.frozen? ⟨b,j,none⟩=false:=by
 rcases h.2 with ⟨rfl,_⟩ | ⟨g,xa,xb,rfl,_,hg,_⟩
 ·cases hv
 ·obtain rfl:g=b:=by simpa [Value.ownBlock] using hv
  simp[World.frozen?,hg]
structure a1Z (R:RfR):Prop where
 slot:∀o,o∈R.ths -> -1<=o.slot
 weak:∀o,o∈R.ths->o.kind=3->o.fl.length=1
theorem kS {W:World} {mb:Nat} {g:PgR} {R:RfR} (h:A9 W own mb g R) (hb:iA R) (hr:dX R) (hs:a1Z R) :
  Calls prog 65 #[zB mb] W fun e w'=>e=.returned (J (iZ (R.ths.map ThR.slot) (A0 R.abs):Int))/\A9 w' own mb g { R with ths:=L0 (A0 R.abs) R.ths.length R.ths }/\A2 own W own w':=by
 have xw:=hid (cG h hb hr);have HA:=hid h;have yk:=hid hr;have ye:=hid hs;have yx:=hid hb;have hm:=h.lt _ _ h.me;have yp:Hid (∀k,W.heap.size<=k->own k=none):=hid fun k hk=>by
  cases e:own k with
  | none=>rfl
  | some t=>have:=h.lt k t e;omega
 have ys:=hb.ths;have yv:(A0 R.abs).length<=R.ths.length:=by
  have hq:=(dA hr.within hr.roots);have:=L7 hq.nodup hq.lt;rw[show R.abs.obs.length=R.ths.length from List.length_map _] at this;exact this
 generalize hAL:A0 R.abs=al at *
 clear h hb hr hs hAL;go_enter func65,ntmps65;go_wp2_with (go_at_call 86;refine xw.out.mono ?_;rintro e w1 ⟨v1,rfl,yd,yc⟩)
 have yh:=hid yd;have yn:=hid yc;have yr:=hid (HA.out.same yc);clear yd yc;obtain⟨la,lc,rfl,_⟩:=O8 yh.out;go_wp2_with fail;go_loopw [4,5] (fun vf vi wr=>∃i:Nat,i<=R.ths.length/\vi=J i/\vf=J (fY (R.ths.map ThR.slot) al i:Int)/\A9 wr own mb g { R with ths:=L0 al i R.ths }/\A2 own w1 own wr) (fun _ vi _=>R.ths.length - (intOf vi).toNat)
 case atStart=>exact ⟨0,L4c _,rfl,rfl,by rw [yZ];exact yr.out,A2.refl _ _⟩
 case round =>
  obtain⟨i,hi,rfl,rfl,xb,xg⟩:=hrel;have ze:=xb.lt _ _ xb.me;have xr:=hid xb;have xm:=hid xg;have yz:=a2D (R.ths.map ThR.slot) al i;obtain⟨ta,yy,xy,_,xc⟩:=Row.cells ThR.cells_len xb.things;have m5:=xb.c5;rw[xy] at m5;rw[show ({ R with ths:=L0 al i R.ths } : RfR).ths.length=R.ths.length from cF _ _ _] at m5;have xd:=tJ yh.out xg yp.out;obtain⟨za,yu,e1,xa⟩:=O8 xd
  cases e1;have xo:Hid (∀j:Nat,Calls prog 103 #[.slice la al.length lc,J (j:Int)] wr fun e w'=>e=.returned (J (C4 (al.map fun n:Nat=>(n:Int)) 0 (j:Int)))/\w'=wr):=hid fun j=>by
   have:=eH la lc (al.map fun n:Nat=>(n:Int)) (j:Int) xa (by rw [List.length_map];omega);rw[List.length_map] at this;exact this
  by_cases hlt:i < R.ths.length
  ·obtain ⟨o,ho⟩:∃o,R.ths[i]?=some o:=⟨_,L1b hlt⟩
   have xe:({ R with ths:=L0 al i R.ths } : RfR).ths[i]?=some o:=a4M ho;have xt:=hid xe;have yb:=hid (yY (al:=al) ho);have ya:=hid (wC (sl:=R.ths.map ThR.slot) (al:=al) (i:=i) (x:=o.slot) (by rw [List.getElem?_map,ho];rfl));obtain⟨tb,rfl,zc,xv,yo,xj⟩:=xc (by rw [show ({ R with ths:=L0 al i R.ths } : RfR).ths.length=R.ths.length from cF _ _ _];omega);have t0:wr.cell? ⟨tb,i*3,none⟩=some (zC o.kind):=xj i 0 o _ xe R4 rfl
   have t1:wr.cell? ⟨tb,i*3+1,none⟩=some o.fv:=xj i 1 o _ xe R4 rfl;have t2:wr.cell? ⟨tb,i*3+2,none⟩=some (J o.slot):=xj i 2 o _ xe R4 rfl;have tz:=yo (i*3+2);have zb:(i:Int) < (R.ths.length:Int):=by omega
   have xk:=eI (l:=al) (j:=i);obtain⟨fa,fc,xf,_,xn⟩:=(xb.fld i o xe).vals;have yl:({ R with ths:=L0 al i R.ths } : RfR).ths.length=R.ths.length:=cF _ _ _;have xp:Hid (A9 (wr.setCell ⟨tb,i*3+2,none⟩ (J (-1))) own mb g { R with ths:=(L0 al i R.ths).set i { o with slot := -1 } }/\A2 own wr own (wr.setCell ⟨tb,i*3+2,none⟩ (J (-1)))):=hid (xb.putSlot xe xy xv)
   have yw:=ye.out.slot o (L2a ho);by_cases hin:i∈al
   ·have hq:¬C4 (al.map fun n:Nat=>(n:Int)) 0 (i:Int) < 0:=fun cc=>xk.1 cc hin
    have zd:0<=C4 (al.map fun n:Nat=>(n:Int)) 0 (i:Int):=by omega
    have xi:Hid (fY (R.ths.map ThR.slot) al (i+1)=fY (R.ths.map ThR.slot) al i):=hid (by rw [ya.out,if_neg (fun c=>c.1 hin)];rfl);have xu:Hid (∀p:ThR,aP al i o=p->(L0 al i R.ths).set i p=L0 al (i+1) R.ths):=hid fun p hp=>by rw [yb.out,hp]
    by_cases hk3:o.kind=3
    ·have xq:=ye.out.weak o (L2a ho) hk3
     obtain⟨x,hx⟩:∃x,o.fl=[x]:=List.length_eq_one_iff.1 xq
     obtain⟨fb,rfl,yt,xh⟩:=xn R5;obtain⟨y0,y1⟩:=xh 0 x (by rw [hx];rfl);rw[Nat.zero_mul] at y0 y1;rw[xf,xq] at t1;rw[hk3] at t0;have xz:own fb=some (.fld i):=(xb.fld i o xe).2 fb (by rw [xf];rfl);have xx:Hid (A9 ((wr.setCell ⟨fb,0,none⟩ (zC 0)).setCell ⟨fb,0+1,none⟩ (J 0)) own mb g { R with ths:=(L0 al i R.ths).set i { o with fl:=o.fl.set 0 (0,0) } }/\A2 own wr own ((wr.setCell ⟨fb,0,none⟩ (zC 0)).setCell ⟨fb,0+1,none⟩ (J 0))):=hid (xb.putFld (i:=0) (x:=x) (y:=(0,0)) xe (by rw [hx];rfl) xf xz)
     have yf:∀q,wr.frozen? ⟨fb,q,none⟩=false:=fun q=>tY (xb.fld i o xe).1 (by rw [xf];rfl) q
     have z0:=yf 0;have z1:=yf 1;by_cases hx2:x.1=2
     ·obtain ⟨x0,xl⟩:=yk.out.flds o (L2a ho) x (by rw [hx];simp) hx2
      obtain⟨j,hj⟩:=L5c x0;rw[hx2] at y0;rw[hj] at y1;have yg:x.2.toNat=j:=by rw [hj];rfl
      have xs:=eI (l:=al) (j:=j);by_cases hja:j∈al
      ·have ym:¬C4 (al.map fun n:Nat=>(n:Int)) 0 (j:Int) < 0:=fun cc=>xs.1 cc hja
       have HC:Hid (aP al i o=o):=hid (by
        unfold aP;rw[gV (fun c=>c.2.2.2 (by rw [hx];show x.2.toNat∈al;rw [yg];exact hja)),if_pos hin])
       clear xb xg xc xd xa xj xn xh xf xe ho xk xs xp;go_wp2_with (go_at_call 103;refine (xo.out _).mono ?_;rintro e w' ⟨rfl,hw⟩;rw [hw];clear hw w')
       go_roundw
       case rel=>exact ⟨i+1,by omega,by go_num,by rw [xi.out],by
        rw[<- xu.out _ HC.out,bK xt.out];exact xr.out,xm.out⟩
       case measure=>simp [intOf];omega
      ·have ym:C4 (al.map fun n:Nat=>(n:Int)) 0 (j:Int) < 0:=xs.2 hja
       have HC:Hid (aP al i o={ o with fl:=o.fl.set 0 (0,0) }):=hid (by
        unfold aP;rw[zP ⟨hin,hk3,by rw [hx];exact hx2,by rw [hx];show x.2.toNat∉al;rw [yg];exact hja⟩,if_pos hin])
       clear xb xg xc xd xa xj xn xh xf xe ho xk xs xp;go_wp2_with (go_at_call 103;refine (xo.out _).mono ?_;rintro e w' ⟨rfl,hw⟩;rw [hw];clear hw w')
       go_roundw
       case rel=>exact ⟨i+1,by omega,by go_num,by rw [xi.out],by
        rw[<- xu.out _ HC.out];exact xx.out.1,xm.out.trans xx.out.2⟩
       case measure=>simp [intOf];omega
     ·have yq:(x.1 == 2)=false:=L2c.2 hx2
      have HC:Hid (aP al i o=o):=hid (by
       unfold aP;rw[gV (fun c=>hx2 (by have:=c.2.2.1;rw [hx] at this;exact this)),if_pos hin])
      clear xb xg xc xd xa xj xn xh xf xe ho xk xp xx;go_wp2_with (go_at_call 103;refine (xo.out _).mono ?_;rintro e w' ⟨rfl,hw⟩;rw [hw];clear hw w')
      go_roundw
      case rel=>exact ⟨i+1,by omega,by go_num,by rw [xi.out],by
       rw[<- xu.out _ HC.out,bK xt.out];exact xr.out,xm.out⟩
      case measure=>simp [intOf];omega
    ·have yj:(o.kind == 3)=false:=L2c.2 hk3
     have HC:Hid (aP al i o=o):=hid (by
      unfold aP;rw[gV (fun c=>hk3 c.2.1),if_pos hin])
     clear xb xg xc xd xa xj xn xf xe ho xk xp;go_wp2_with (go_at_call 103;refine (xo.out _).mono ?_;rintro e w' ⟨rfl,hw⟩;rw [hw];clear hw w')
     go_roundw
     case rel=>exact ⟨i+1,by omega,by go_num,by rw [xi.out],by
      rw[<- xu.out _ HC.out,bK xt.out];exact xr.out,xm.out⟩
     case measure=>simp [intOf];omega
   ·have hq:C4 (al.map fun n:Nat=>(n:Int)) 0 (i:Int) < 0:=xk.2 hin
    have HC:Hid (aP al i o={ o with slot := -1 }):=hid (by
     unfold aP;rw[gV (fun c=>hin c.1),if_neg hin])
    by_cases hs0:0<=o.slot
    ·clear xb xg xc xd xa xj xn xf xe ho xk t0 t1
     go_wp2_with (go_at_call 103;refine (xo.out i).mono ?_;rintro e w' ⟨rfl,hw⟩;rw [hw];clear hw w')
     go_roundw
     case rel=>exact ⟨i+1,by omega,by go_num,by rw [ya.out,if_pos ⟨hin,hs0⟩];go_num,by rw [yb.out,HC.out];exact xp.out.1,xm.out.trans xp.out.2⟩
     case measure=>simp [intOf];omega
    ·have yi:o.slot = -1:=by omega
     have HE:Hid (({ o with slot := -1 } : ThR)=o):=hid (by rw [<- yi]);rw[yi] at t2;clear xb xg xc xd xa xj xn xf xe ho xk t0 t1;go_wp2_with (go_at_call 103;refine (xo.out i).mono ?_;rintro e w' ⟨rfl,hw⟩;rw [hw];clear hw w')
     go_roundw
     case rel=>exact ⟨i+1,by omega,by go_num,by rw [ya.out,if_neg (fun c=>by have:=c.2;omega)];rfl,by
      rw[yb.out,HC.out,HE.out,bK xt.out];exact xr.out,xm.out⟩
     case measure=>simp [intOf];omega
  ·obtain rfl:i=R.ths.length:=by omega
   clear xb xg xc xd xa xy;go_wp2_with fail;go_ret;exact⟨by rw [<- zT,List.length_map];rfl,xr.out,(A2.of_below yn.out).trans xm.out⟩
end
section
variable {B mb:Nat} {R:RfR} {g:PgR} {own own':Own} {w w':World}
theorem A9.edit {R':RfR} (h:A9 w own mb g R) (hsize:w.heap.size<=w'.heap.size) (hlt:∀k t,own' k=some t->k < w'.heap.size) (hme:own' mb=some .mach)
  (hno:∀k,own k=none->k < w.heap.size->(g.blk k\/k=0\/∃o,R.da=some ⟨k,o,none⟩)->own' k=none/\w'.heap[k]?=w.heap[k]?)
  (c0:w'.cell? ⟨mb,0,none⟩=w.cell? ⟨mb,0,none⟩) (c1:w'.cell? ⟨mb,1,none⟩=some (J (R'.cap:Int))) (c2:w'.cell? ⟨mb,2,none⟩=some (J R'.st)) (c3:w'.cell? ⟨mb,3,none⟩=some R'.ov) (c4:w'.cell? ⟨mb,4,none⟩=some R'.cv) (c5:w'.cell? ⟨mb,5,none⟩=some R'.hv) (c6:w'.cell? ⟨mb,6,none⟩=w.cell? ⟨mb,6,none⟩) (fz:∀j,w'.frozen? ⟨mb,j,none⟩=false)
  (out:Row w' own' .out 3 1 R'.ov R'.out.length (R'.out.map fun n=>J n)) (called:Row w' own' .called 86 4 R'.cv R'.frs.length (R'.frs.flatMap FrR.cells)) (things:Row w' own' .slots 100 3 R'.hv R'.ths.length (R'.ths.flatMap ThR.cells))
  (loc:∀i f,R'.frs[i]?=some f->Row w' own' (.loc i) 92 2 f.lv f.loc.length (A7 f.loc)) (stk:∀i f,R'.frs[i]?=some f->Row w' own' (.stk i) 92 2 f.sv f.stk.length (A7 f.stk)) (fld:∀j o,R'.ths[j]?=some o->Row w' own' (.fld j) 92 2 o.fv o.fl.length (A7 o.fl))
  (hdo:∀b o,R.da=some ⟨b,o,none⟩->own' b=none) (hda:R'.da=R.da) (hdc:R'.dc=R.dc) (hdr:R'.dr=R.dr):A9 w' own' mb g R':=by
 have hz:0 < w.heap.size:=Nat.lt_of_le_of_lt (L4c _) (h.lt _ _ h.me);refine⟨hlt,hme,c0.trans h.c0,c1,c2,c3,c4,c5,by rw [c6,hda,hdc,hdr];exact h.c6,fz,out,called,things,loc,stk,fld,h.pg.held hsize fun k hk=>(hno k (h.ro k hk) (h.pg.blk_lt hk) (L4a hk)).2,fun k hk=>(hno k (h.ro k hk) (h.pg.blk_lt hk) (L4a hk)).1,(hno 0 h.ro0 hz (L4b (L4a rfl))).1,by rw [hdc,hdr];exact h.dle,fun h0=>?_,fun b o e=>?_⟩
 ·rw [hdr] at h0 ⊢
  rw[hda];obtain⟨b,q,e,hb,hc⟩:=h.draws h0;exact⟨b,q,e,L0a hb hsize,fun i x hx=>(L0b (w:=w) (a:=⟨b,q+i,none⟩) (hno b (h.dro b q e).2 hb (L4b (L4b ⟨q,e⟩))).2).trans (hc i x hx)⟩
 ·rw [hda] at e
  exact⟨L0a (h.dro b o e).1 hsize,hdo b o e⟩
structure bS (B:Nat) (own:Own) (w:World) (own':Own) (w':World):Prop where
 os:w'.os=w.os
 tape:w'.tape=w.tape
 output:w'.output=w.output
 size:w.heap.size<=w'.heap.size
 block:∀k,k < B->own k=none->w'.heap[k]?=w.heap[k]?
 old:∀k,k < B->own' k=own k
theorem bS.trans {own'':Own} {w'':World} (h:bS B own w own' w') (k:bS B own' w' own'' w''):bS B own w own'' w'' :=
 ⟨k.os.trans h.os,k.tape.trans h.tape,k.output.trans h.output,L5a h.size k.size,
  fun i hi hn=>(k.block i hi (by rw [h.old i hi];exact hn)).trans (h.block i hi hn),
  fun i hi=>(k.old i hi).trans (h.old i hi)⟩
theorem A2.touB (h:A2 own w own' w') {B:Nat} (hB:B<=w.heap.size):bS B own w own' w' :=
 ⟨h.os,h.tape,h.output,h.size,fun k hk hn=>h.block k (L0a hk hB) hn,fun k hk=>h.old k (L0a hk hB)⟩
theorem bS.touched (h:bS w.heap.size own w own' w'):A2 own w own' w':=⟨h.os,h.tape,h.output,h.size,h.block,h.old⟩
theorem bS.of_below (h:Below B w w'):bS B own w own w':=⟨h.os,h.tape,h.output,h.size,fun k hk _=>h.block k hk,fun _ _=>rfl⟩
theorem A9.pushTh {R:RfR} {p:ThR} {hv:Value} (h:A9 w own mb g R) (hsize:w.heap.size<=w'.heap.size)
  (hk:∀k,k < w.heap.size->k≠mb->own k≠some .slots->w'.heap[k]?=w.heap[k]?)
  (hc:∀j,j≠5->w'.cell? ⟨mb,j,none⟩=w.cell? ⟨mb,j,none⟩) (hc5:w'.cell? ⟨mb,5,none⟩=some hv) (hfz:∀j,w'.frozen? ⟨mb,j,none⟩=false)
  (hrow:w'.ownsRow 0 100 3 hv (R.ths.length+1) ((R.ths++[p]).flatMap ThR.cells)) (hon:E7 w own hv .slots)
  (hfld:w.ownsRow 0 92 2 p.fv p.fl.length (A7 p.fl)) (hnb:S6 own g p.fv) (hnd:∀b o,R.da=some ⟨b,o,none⟩->p.fv.ownBlock≠some b) :
  A9 w' ((own.upd p.fv.ownBlock (.fld R.ths.length)).upd hv.ownBlock .slots) mb g { R with hv:=hv,ths:=R.ths++[p] }/\∀k,k < w.heap.size->p.fv.ownBlock≠some k->((own.upd p.fv.ownBlock (.fld R.ths.length)).upd hv.ownBlock .slots) k=own k:=by
 have xd:=h.lt;have xb:∀k t,own k=some t->((own.upd p.fv.ownBlock (.fld R.ths.length)).upd hv.ownBlock .slots) k=some t:=fun k t hkt=>by
  unfold Own.upd;by_cases e1:hv.ownBlock=some k
  ·rw [if_pos e1]
   rcases hon k e1 with e | e
   ·rw [e] at hkt;exact hkt
   ·have:=xd k t hkt;omega
  ·rw [if_neg e1,if_neg (fun e=>by have:=(hnb k e).1;rw [hkt] at this;cases this)]
   exact hkt
 have xa:∀k,own k=none->k < w.heap.size->p.fv.ownBlock≠some k->((own.upd p.fv.ownBlock (.fld R.ths.length)).upd hv.ownBlock .slots) k=none:=fun k hkn hks hkp=>by
  unfold Own.upd;rw[if_neg (fun e=>by
   rcases hon k e with e | e
   ·rw [hkn] at e;cases e
   ·omega),if_neg hkp]
  exact hkn
 have keep:∀t,t≠.mach->t≠.slots->∀k,own k=some t->w'.heap[k]?=w.heap[k]?/\((own.upd p.fv.ownBlock (.fld R.ths.length)).upd hv.ownBlock .slots) k=some t:=fun t h1 h2 k hk' =>
  ⟨hk k (xd k t hk') (fun e=>by rw [e,h.me] at hk';exact h1 (L5b hk').symm) (by rw [hk'];exact fun e=>h2 (L5b e)),xb k t hk'⟩
 have xe:∀k,k < w.heap.size->own k=none->w'.heap[k]?=w.heap[k]?:=fun k hk1 hk2=>hk k hk1 (fun e=>by rw [e,h.me] at hk2;cases hk2) (by rw [hk2];simp)
 refine⟨h.edit (R':={ R with hv:=hv,ths:=R.ths++[p] }) hsize (fun k t hk'=>?_) (xb _ _ h.me) (fun k hn hks hor=>⟨xa k hn hks ?_,xe k hks hn⟩) (hc 0 R4) ((hc 1 R4).trans h.c1) ((hc 2 R4).trans h.c2) ((hc 3 R4).trans h.c3) ((hc 4 R4).trans h.c4) hc5 (hc 6 R4) hfz
  (h.out.kept (keep _ R6 R6)) (h.called.kept (keep _ R6 R6)) ⟨by rw [show ({ R with hv:=hv,ths:=R.ths++[p] } : RfR).ths.length=R.ths.length+1 by simp];exact hrow,fun b hb=>by unfold Own.upd;rw [if_pos hb]⟩ (fun i x hx=>(h.loc i x hx).kept (keep _ R6 R6)) (fun i x hx=>(h.stk i x hx).kept (keep _ R6 R6)) (fun i x hx=>?_) (fun b o e=>xa b (h.dro b o e).2 (h.dro b o e).1 (hnd b o e)) rfl rfl rfl,fun k hks hkp=>?_⟩
 ·unfold Own.upd at hk'
  split at hk'
  ·rename_i e;exact (hrow.lt k e).2
  ·split at hk'
   ·rename_i e;exact L0a (hfld.lt k e).2 hsize
   ·exact L0a (xd k t hk') hsize
 ·rcases hor with hb | rfl | ⟨o,e⟩
  ·exact fun e=>(hnb k e).2.1 k hb rfl
  ·exact fun e=>(hnb 0 e).2.2 rfl
  ·exact hnd k o e
 ·by_cases e:i=R.ths.length
  ·subst e
   obtain rfl:p=x:=by
    have:(R.ths++[p])[R.ths.length]?=some x:=hx;simpa using this
   refine⟨A6 hfld fun b hb=>xe b (hfld.lt b hb).2 (hnb b hb).1,fun b hb=>?_⟩;unfold Own.upd;rw[if_neg (fun e1=>by
    rcases hon b e1 with e2 | e2
    ·have:=(hnb b hb).1;rw [e2] at this;cases this
    ·have:=(hfld.lt b hb).2;omega),if_pos hb]
  ·have xc:(R.ths++[p])[i]?=some x:=hx
   have hi:i < R.ths.length:=by
    have:=(L1a.1 xc).1;simp at this;omega
   rw[List.getElem?_append_left hi] at xc;exact (h.fld i x xc).kept (keep _ R6 R6)
 ·cases e:own k with
  | none=>exact xa k e hks hkp
  | some t=>exact xb k t e
end
end Go.Proofs.YtbkmgoffiigdbaaGreatDoor
