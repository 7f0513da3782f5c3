import Derived.Test.YtbkmgoffiigdbaaGreatDoorWAe
import Derived.Test.YtbkmgoffiigdbaaGreatDoorWAb
namespace Go.Proofs.YtbkmgoffiigdbaaGreatDoor
open Go.RowKit Go.Sort Go.Proofs.Tryz
set_option maxHeartbeats 8000000
set_option maxRecDepth 100000
section
variable {B C e i n sz:Nat} {R:RfR} {U W w:World} {a:Option Addr} {l:List Val} {met:List Nat} {obs:List Ob} {own:Own} {v:Value} {xs:List Value}
def ThR.abs (o:ThR):Int × List Val:=(o.kind,o.fl)
def RfR.abs (R:RfR):McA:=⟨R.st,R.out,R.frs.map FrR.abs,R.ths.map ThR.abs,R.dr⟩
theorem O5.src (h:O5 W B a l):0 < l.length->∃d,a=some d/\∀j u,(A5 l)[j]?=some u->W.cell? (d.add j)=some u:=fun h0=>by
 obtain⟨b,rfl,hb,hc⟩:=h h0;refine⟨_,rfl,fun j u hu=>?_⟩;have hj:=(L1a.1 hu).1;rw[D3] at hj;obtain⟨x,hx⟩:∃x,l[j / 2]?=some x:=⟨_,L1b R4⟩
 have hg:=E0 F7 hx (show j % 2 < 2 by omega);rw[show j / 2*2+j % 2=j by omega] at hg;obtain⟨c0,c1⟩:=hc _ x hx;have xa:(O4 x)[j % 2]?=some u:=hg.symm.trans hu;rw[W9];rcases Nat.mod_two_eq_zero_or_one j with e | e
 ·rw [e] at xa
  rw[show j=j / 2*2 by omega,c0];exact xa
 ·rw [e] at xa
  rw[show j=j / 2*2+1 by omega,c1];exact xa
theorem O5.later (h:O5 W B a l) (hB:Below B W U):O5 U B a l:=fun h0=>by
 obtain⟨b,e,hb,hc⟩:=h h0;refine⟨b,e,hb,fun i x hx=>?_⟩;rw[hB.cell (p:=⟨b,_,none⟩) hb,hB.cell (p:=⟨b,_,none⟩) hb];exact hc i x hx
theorem Row.vals {t:Tag} (h:Row w own t 92 2 v l.length (A5 l)):∃a cp,v=.slice a l.length cp/\l.length<=cp/\O5 w w.heap.size a l:=by
 obtain⟨a,cp,e,xb,hc⟩:=Row.cells F7 h;refine⟨a,cp,e,xb,fun h0=>?_⟩;obtain⟨b,e1,hb,_,_,xa⟩:=hc h0;exact⟨b,e1,hb,fun i x hx=>⟨xa i 0 x _ hx R3 rfl,xa i 1 x _ hx R3 rfl⟩⟩
theorem kD (l:List FrA) (k:Nat) (h:∀f,f∈l->f.loc.length<=k/\f.stk.length<=k):(C4 l).length<=l.length*(2*k):=by
 induction l with
 | nil=>simp [C4]
 | cons f l ih =>
  have h1:=ih fun x hx=>h x (by simp [hx])
  have h2:=h f R5;unfold C4 at h1 ⊢;simp only[List.flatMap_cons,List.length_append,List.length_cons];rw[Nat.add_mul];omega
theorem rD {l:List FrA} {f:FrA} (h:l[i]?=some f):C4 (l.take (i+1))=C4 (l.take i)++f.loc++f.stk:=by
 have e:l.take (i+1)=l.take i++[f]:=by rw [List.take_add_one,h];rfl
 rw[e];simp[C4,List.append_assoc]
structure fD (R:RfR):Prop where
 frs:R.frs.length<=1000
 loc:∀f,f∈R.frs->f.loc.length<=1000/\f.stk.length<=1000
 ths:R.ths.length<=100000000000
 fld:∀o,o∈R.ths->o.fl.length<=1000
structure bX (R:RfR):Prop where
 vals:∀v,v∈C4 (R.frs.map FrR.abs)->v.1=2->0<=v.2/\v.2.toNat < R.ths.length
 flds:∀o,o∈R.ths->∀v,v∈o.fl->v.1=2->0<=v.2/\v.2.toNat < R.ths.length
theorem bX.within (h:bX R):fU R.abs.obs:=fun o ho v hv h2=>by
 obtain⟨p,hp,rfl⟩:=List.mem_map.1 ho;show _ < (R.ths.map ThR.abs).length;rw[List.length_map];exact (h.flds p hp v hv h2).2
theorem bX.roots (h:bX R):∀v,v∈C4 R.abs.frs->v.1=2->v.2.toNat < R.abs.obs.length:=fun v hv h2=>by
 show _ < (R.ths.map ThR.abs).length;rw[List.length_map];exact (h.vals v hv h2).2
theorem gG {α:Type} {c:α->List Value} (hc:∀x,(c x).length=sz) {w:World} {B e:Nat} {v:Value} {l:List α} (h:w.ownsRow B e sz v l.length (l.flatMap c)) :
  ∃a cp,v=.slice a l.length cp/\l.length<=cp/\(0 < l.length->∃b,a=some ⟨b,0,none⟩/\B<=b/\b < w.heap.size/\(∀j,w.frozen? ⟨b,j,none⟩=false)/\∀(i j:Nat) (x:α) (u:Value),l[i]?=some x->j < sz->(c x)[j]?=some u->w.cell? ⟨b,i*sz+j,none⟩=some u):=by
 rcases h.2 with ⟨rfl,h0⟩ | ⟨g,xa,xc,rfl,hB,hg,h3,h4,h5,h6⟩
 ·exact ⟨none,0,by rw [h0],by omega,fun hp=>by omega⟩
 ·refine ⟨_,xa,rfl,h3,fun _=>⟨g,rfl,hB,(L2b.1 hg).1,fun j=>by simp [World.frozen?,hg],fun i j x u hx hj hu=>?_⟩⟩
  have h7:=E0 hc hx hj;rw[hu,<- h6] at h7;have xb:i*sz+j < l.length*sz:=by
   have h8:=(L1a.1 hx).1;have:(i+1)*sz<=l.length*sz:=Nat.mul_le_mul_right _ h8;rw[Nat.succ_mul] at this;omega
  rw[List.getElem?_take,if_pos xb] at h7;simp only[World.cell?,hg];simpa using h7
theorem T4 (h:w.ownsRow B 92 2 v l.length (A5 l)):∃a cp,v=.slice a l.length cp/\l.length<=cp/\O5 w w.heap.size a l:=by
 obtain⟨a,cp,e,xb,hc⟩:=gG F7 h;refine⟨a,cp,e,xb,fun h0=>?_⟩;obtain⟨b,e1,_,hb,_,xa⟩:=hc h0;exact⟨b,e1,hb,fun i x hx=>⟨xa i 0 x _ hx R3 rfl,xa i 1 x _ hx R3 rfl⟩⟩
theorem G9 (h:w.ownsRow B e sz v n xs) (hb:L0d w U):U.ownsRow B e sz v n xs:=by
 refine⟨h.1,?_⟩;rcases h.2 with h2 | ⟨g,cap,cur,q1,q2,q3,q4⟩
 ·exact L4a h2
 ·exact L4b ⟨g,cap,cur,q1,q2,(hb.block g (L2b.1 q3).1).trans q3,q4⟩
theorem eT (h:w.ownsRow B e sz v n xs) (hc:C<=B):w.ownsRow C e sz v n xs:=by
 refine⟨h.1,?_⟩;rcases h.2 with h2 | ⟨g,cap,cur,q1,q2,q3⟩
 ·exact L4a h2
 ·exact L4b ⟨g,cap,cur,q1,L5a hc q2,q3⟩
theorem O5.mono (h:O5 W B a l) (hB:B<=C):O5 W C a l:=fun h0=>by
 obtain⟨b,e,hb,hc⟩:=h h0;exact⟨b,e,L0a hb hB,hc⟩
theorem uQ (R:RfR):A1 R.abs=G7 (R.ths.map ThR.abs) (R.ths.map ThR.abs).length 0 (C1 [] (C4 (R.frs.map FrR.abs))):=rfl
theorem yL {j:Nat} {o:Ob} (hi:met[i]?=some j) (ho:obs[j]?=some o):G7 obs (n+1) i met=G7 obs n (i+1) (if o.1=3 then met else C1 met o.2):=by
 rw[G7,hi];simp only[ho]
theorem a1Q : G7 obs n met.length met=met:=by
 cases n with
 | zero=>rfl
 | succ n=>rw [G7,List.getElem?_eq_none (L1c _)]
theorem yN (h:∀v,v∈l->v.1=2->v.2.toNat < obs.length):cI obs 0 (C1 [] l) :=
 ⟨Q0 l [] R5,bA R5 h,fun k j hk=>by omega⟩
theorem cB {mb:Nat} {g:PgR} (h:A8 W own mb g R) (hb:fD R) (hr:bX R) :
  Calls prog 86 #[.pointer (some ⟨mb,0,none⟩)] W fun e w'=>∃v,e=.returned v/\w'.ownsRow W.heap.size 3 1 v (A1 R.abs).length (X2 (A1 R.abs))/\L0d W w':=by
 obtain⟨xp,hi,hz,yx,yj⟩:=info_parts I2;have HI:=hid hi;have HZ:=hid hz;have yg:=hid yx;have yk:=hid yj;have hm:=h.lt _ _ h.me;obtain⟨ca,zx,yo,_,yw⟩:=Row.cells FrR.cells_len h.called;obtain⟨ta,zq,yv,_,yl⟩:=Row.cells ThR.cells_len h.things;have HC:=hid yw;have HT:=hid yl;have zi:=hid h.loc;have zf:=hid h.stk;have zb:=hid h.fld;have m4:=h.c4;have m5:=h.c5;rw[yo] at m4;rw[yv] at m5
 have M5:=hid m5;have M4:=hid m4;have xw:=hid hb;have xu:=hid hr;have qc:=hb.frs;have zj:(R.frs.length:Int)<=1000:=by omega
 have zt:=hb.ths;clear hi hz yx yj yw yl h m5 m4 hb hr yo yv;go_enter func86,ntmps86;go_wp2_with fail;go_loopw [3,4] (fun vl vi wr=>∃i:Nat,i<=R.frs.length/\vi=.int .i64 i/\wr.ownsRow W.heap.size 92 2 vl (C4 ((R.frs.map FrR.abs).take i)).length (A5 (C4 ((R.frs.map FrR.abs).take i)))/\L0d W wr) (fun _ vi _=>R.frs.length - (intOf vi).toNat)
 case atStart=>exact ⟨0,L4c _,rfl,World.ownsRow_nil _ _ _ _,L3b _ _⟩
 case round =>
  obtain⟨i,hi,rfl,xb,xa⟩:=hrel;have xd:=hid xa;have xg:=hid xb;have zr:mb < wr.heap.size:=L0a hm xa.size;have m4:=keep xa hm M4.out;by_cases hlt:i < R.frs.length
  ·obtain ⟨f,hf⟩:∃f,R.frs[i]?=some f:=⟨_,L1b hlt⟩
   obtain⟨cb,rfl,xt,_,_,yb⟩:=HC.out R4;obtain⟨la,lc,yr,_,hl⟩:=(zi.out i f hf).vals;obtain⟨sa,sc,ys,_,hs⟩:=(zf.out i f hf).vals;have k2:=yb i 2 f _ hf R3 rfl;have k3:=yb i 3 f _ hf R3 rfl;rw[yr] at k2;rw[ys] at k3;have za:=hid ((hl.later xd.out).src);have ze:Hid (∀U,L0d W U->(0 < f.stk.length->∃d,sa=some d/\∀j u,(A5 f.stk)[j]?=some u->U.cell? (d.add j)=some u)):=fun U hU=>(hs.later hU).src
   have zl:=hid k3;rw[<- xa.cell (p:=⟨cb,_,none⟩) xt] at k2 k3;have qa:cb < wr.heap.size:=L0a xt xa.size;have zn:=xw.out.loc f (L2a hf);have xn:=kD ((R.frs.map FrR.abs).take i) 1000 fun x hx=>by
    obtain⟨y,hy,rfl⟩:=List.mem_map.1 (List.mem_of_mem_take hx);exact xw.out.loc y hy
   rw[List.length_take,List.length_map] at xn;have zh:(C4 ((R.frs.map FrR.abs).take i)).length<=2000000:=by
    have:min i R.frs.length*(2*1000)<=1000*(2*1000):=Nat.mul_le_mul_right _ R4;omega
   have zc:=hid (rD (l:=R.frs.map FrR.abs) (i:=i) (f:=f.abs) (by rw [List.getElem?_map,hf];rfl));clear xb xa hf xn yb hl hs yr ys;have zy:W.heap.size<=wr.heap.size:=xd.out.size;go_wp2_with (at_builtin;go_must (refine A9 _ rfl (.tmp 17) (.tmp 25) 84 rfl W.heap.size 92 xp _ 2 16 underlying84 HI.out HZ.out yg.out yk.out rfl R3 _ (C4 ((R.frs.map FrR.abs).take i)).length (A5 (C4 ((R.frs.map FrR.abs).take i))) rfl xg.out la f.loc.length lc (A5 f.loc) rfl (D3 _) za.out (W5 _) Q5 R4 R4 ?_))
   intro v1 w1 hown1 hgrow1 _;have xm:=M8 xd.out xg.out hgrow1;have r3:=(xm.cell (p:=⟨cb,i*4+3,none⟩) xt).trans zl.out;have zo:cb < w1.heap.size:=L0a xt xm.size;have zv:W.heap.size<=w1.heap.size:=xm.size;have n4:=keep xm hm M4.out;have zd:mb < w1.heap.size:=L0a hm xm.size;have xs:=hid xm;have xv:=hid hown1;clear xm hown1 hgrow1 k2 k3;go_wp2_with (at_builtin;go_must (refine A9 _ rfl (.tmp 27) (.tmp 35) 84 rfl W.heap.size 92 xp _ 2 16 underlying84 HI.out HZ.out yg.out yk.out rfl R3 _ ((C4 ((R.frs.map FrR.abs).take i)).length+f.loc.length) (A5 (C4 ((R.frs.map FrR.abs).take i))++A5 f.loc) rfl xv.out sa f.stk.length sc (A5 f.stk) rfl (D3 _) (ze.out _ xs.out) (W5 _) Q5 R4 R4 ?_))
   intro v2 w2 hown2 hgrow2 _;have yd:=hid (M8 xs.out xv.out hgrow2);have ye:=hid hown2;clear hown2 hgrow2 r3 n4 m4;go_wp2_with fail;go_roundw
   case rel=>exact ⟨i+1,by omega,by go_num,by
    rw[zc.out,G5,G5,List.length_append,List.length_append,List.append_assoc];exact ye.out,yd.out⟩
   case measure=>simp [intOf];omega
  ·obtain rfl:i=R.frs.length:=by omega
   obtain⟨wB,zk⟩:∃wB,wB=wr:=⟨_,rfl⟩
   subst zk;have hq:(R.frs.map FrR.abs).take R.frs.length=R.frs.map FrR.abs:=by rw [<- List.length_map (f:=FrR.abs),List.take_length]
   rw[hq] at xg;have xn:=kD (R.frs.map FrR.abs) 1000 fun x hx=>by
    obtain⟨y,hy,rfl⟩:=List.mem_map.1 hx;exact xw.out.loc y hy
   rw[List.length_map] at xn;obtain⟨ra,rc,rfl,_,xr⟩:=T4 xg.out;have ya:Hid (Calls prog 127 #[.slice none 0 0,.slice ra (C4 (R.frs.map FrR.abs)).length rc] wB fun e w'=>∃v',e=.returned v'/\w'.ownsRow wB.heap.size 3 1 v' (C1 [] (C4 (R.frs.map FrR.abs))).length (X2 (C1 [] (C4 (R.frs.map FrR.abs))))/\L0d wB w'):=hid (zH (met:=[]) (L1c _) (World.ownsRow_nil _ _ _ _) xr (fun u hu h2=>(xu.out.vals u hu h2).1) Q8)
   have yc:=hid (yN (obs:=R.ths.map ThR.abs) (l:=C4 (R.frs.map FrR.abs)) xu.out.roots);have xh:=xd.out.size;clear xb xa hq xn xr;go_wp2_with (go_at_call 127;refine ya.out.mono ?_;rintro e w1 ⟨v1,rfl,yt,ym⟩)
   have xv:=hid yt;have xs:=hid ym;clear yt ym m4;go_wp2_with fail;go_loopw [5,6] (fun vl vi wr=>∃(i:Nat) (met:List Nat),i<=met.length/\vi=.int .i64 i/\wr.ownsRow wB.heap.size 3 1 vl met.length (X2 met)/\L0d wB wr/\cI (R.ths.map ThR.abs) i met/\A1 R.abs=G7 (R.ths.map ThR.abs) ((R.ths.map ThR.abs).length - i) i met) (fun _ vi _=>R.ths.length - (intOf vi).toNat)
   case atStart=>exact ⟨0,_,L4c _,rfl,xv.out,xs.out,yc.out,uQ R⟩
   case round =>
    obtain⟨i,met,hi,rfl,xb,xa,xl,xx⟩:=hrel;obtain⟨la,lc,rfl,xe⟩:=O3 xb;have zm:met.length<=R.ths.length:=by
     have:=L1 xl.nodup xl.lt;rw[List.length_map] at this;exact this
    have xk:=hid xb;have xc:=hid xa;have zp:=hid xl;have yh:=hid xx;by_cases hlt:i < met.length
    ·obtain ⟨j,hj⟩:∃j,met[i]?=some j:=⟨_,L1b hlt⟩
     have yy:=xl.lt j (L2a hj);rw[List.length_map] at yy;obtain⟨o,ho⟩:∃o,R.ths[j]?=some o:=⟨_,L1b yy⟩
     have xz:(R.ths.map ThR.abs)[j]?=some o.abs:=by rw [List.getElem?_map,ho];rfl
     have xj:=hid (yL (n:=(R.ths.map ThR.abs).length - (i+1)) hj xz);have yi:=hid (xl.next xu.out.within hj xz);have yf:(R.ths.map ThR.abs).length - i=(R.ths.map ThR.abs).length - (i+1)+1:=by rw [List.length_map];omega
     obtain⟨lb,lo,rfl,zz,xq⟩:=xe (by rw [List.length_map];omega);have x0:=xq i (j:Int) (by rw [List.getElem?_map,hj];rfl);obtain⟨tb,rfl,xy,_,_,xi⟩:=HT.out R4;have xf:L0d W wr:=Below.trans xd.out (xa.mono xh);have t0:wr.cell? ⟨tb,j*3,none⟩=some (.int .u8 o.kind):=keep xf xy (xi j 0 o _ ho R3 rfl);have t1:wr.cell? ⟨tb,j*3+1,none⟩=some o.fv:=keep xf xy (xi j 1 o _ ho R3 rfl)
     have t2:wr.cell? ⟨tb,j*3+2,none⟩=some (.int .i64 o.slot):=keep xf xy (xi j 2 o _ ho R3 rfl);have m5:=keep xf hm M5.out;have zu:mb < wr.heap.size:=L0a hm xf.size;have zw:tb < wr.heap.size:=L0a xy xf.size;obtain⟨fa,fc,yu,_,yn⟩:=(zb.out j o ho).vals;rw[yu] at t1;have yz:(j:Int) < (R.ths.length:Int):=by omega
     have qb:=xw.out.fld o (L2a ho);have HM:Hid (∀U,L0d wr U->Calls prog 127 #[.slice (some ⟨lb,lo,none⟩) met.length lc,.slice fa o.fl.length fc] U fun e w'=>∃v',e=.returned v'/\w'.ownsRow wB.heap.size 3 1 v' (C1 met o.fl).length (X2 (C1 met o.fl))/\Below wB.heap.size U w'):=hid fun U hU=>zH (L5a xa.size hU.size) (G9 xb hU) ((yn.later (Below.trans xf (hU.mono xf.size))).mono xh) (fun u hu h2=>(xu.out.flds o (L2a ho) u hu h2).1) R4
     generalize hkd:o.kind=kd at *
     clear xb xa xl xx xe xq xi yn yu xz xf;by_cases h3:kd=3
     ·subst h3
      go_wp2_with fail;go_region
      go_wp2_with fail;go_roundw
      case rel =>
       have hX:∀{X:World},L0d wr X->X.ownsRow wB.heap.size 3 1 (.slice (some ⟨lb,lo,none⟩) met.length lc) met.length (X2 met)/\L0d wB X:=fun hX=>⟨G9 xk.out hX,xc.out.trans (hX.mono xc.out.size)⟩
       have hN:=yi.out;have hS:=xj.out;rw[if_pos (show o.abs.1=3 from hkd)] at hN hS;exact⟨i+1,met,by omega,by go_num,(hX P4).1,(hX P4).2,hN,by rw [yh.out,yf,hS]⟩
      case measure=>simp [intOf];omega
     ·have zs:(kd == 3)=false:=L2c.2 h3
      go_wp2_with fail;go_region
      go_wp2_with (go_at_call 127;refine (HM.out _ P4).mono ?_;rintro e w2 ⟨v2,rfl,yq,yp⟩)
      have ye:=hid yq;have yd:Hid (L0d wB w2):=hid (xc.out.trans ((Below.mono P4 xc.out.size).trans yp));clear yq yp;have zg:=(iL o.fl met).length_le;have hN:=hid yi.out
      have hS:=hid xj.out;rw[if_neg (show ¬o.abs.1=3 from fun e=>h3 (hkd.symm.trans e))] at hN hS;have xo:i+1<=(C1 met o.fl).length:=by omega
      go_wp2_with fail;go_roundw
      case rel=>exact ⟨i+1,C1 met o.fl,xo,by go_num,ye.out,yd.out,hN.out,by rw [yh.out,yf,hS.out];rfl⟩
      case measure=>simp [intOf];omega
    ·obtain rfl:i=met.length:=by omega
     have HE:Hid (A1 R.abs=met):=hid (xx.trans a1Q);clear xb xa xl xx xe;go_wp2_with fail;go_ret;exact⟨_,rfl,by rw [HE.out];exact eT xk.out xh,Below.trans xd.out (xc.out.mono xh)⟩
end
section
variable {al:List Nat} {fb fc i j mb tb tc:Nat} {g:PgR} {l:List ThR} {o:ThR} {own:Own} {w w':World} {x:Int}
theorem A8.setFld {R:RfR} {o:ThR} {l:List Val} (h:A8 w own mb g R) (hj:R.ths[j]?=some o) (hfv:o.fv=.slice (some ⟨fb,0,none⟩) o.fl.length fc) (hofb:own fb=some (.fld j)) (hsize:w.heap.size=w'.heap.size) (hk:∀k,k≠fb->w'.heap[k]?=w.heap[k]?) (hlen:l.length=o.fl.length)
  (hrow:w'.ownsRow 0 92 2 (.slice (some ⟨fb,0,none⟩) o.fl.length fc) o.fl.length (A5 l)):A8 w' own mb g { R with ths:=R.ths.set j { o with fl:=l } }:=by
 have xe:=h.lt;have keep:∀t,t≠.fld j->∀k,own k=some t->w'.heap[k]?=w.heap[k]?/\own k=some t:=fun t ht k hk'=>⟨hk k (fun e=>by rw [e,hofb] at hk';exact ht (L5b hk').symm),hk'⟩
 have xb:=(keep .mach R5 mb h.me).1;have xa:∀k,own k=none->w'.heap[k]?=w.heap[k]?:=fun k hk'=>hk k (fun e=>by rw [e,hofb] at hk';cases hk')
 have xc:=(L1a.1 hj).1;have xf:(R.ths.set j { o with fl:=l }).flatMap ThR.cells=R.ths.flatMap ThR.cells:=by
  have e:=G2 (c:=ThR.cells) ThR.cells_len (l:=R.ths) (i:=j) (j:=0) (x:=o) (y:={ o with fl:=l }) (u:=.int .u8 o.kind) hj R4 rfl;rw[e];have hg:(R.ths.flatMap ThR.cells)[j*3+0]?=some (.int .u8 o.kind):=E0 ThR.cells_len hj R4;obtain⟨hl,xd⟩:=L1a.1 hg;rw[<- xd];exact List.set_getElem_self hl
 have kc:∀i x,w.cell? ⟨mb,i,none⟩=some x->w'.cell? ⟨mb,i,none⟩=some x:=fun i x hx=>by rw [L0b (w:=w) (a:=⟨mb,i,none⟩) xb];exact hx
 refine⟨fun k t hk'=>by rw [<- hsize];exact xe k t hk',h.me,kc _ _ h.c0,kc _ _ h.c1,kc _ _ h.c2,kc _ _ h.c3,kc _ _ h.c4,kc _ _ h.c5,kc _ _ h.c6,fun i=>by rw [L0c (w:=w) (a:=⟨mb,i,none⟩) xb];exact h.fz i,h.out.kept (keep _ R5),h.called.kept (keep _ R5),?_,fun i x hx=>(h.loc i x hx).kept (keep _ R5),fun i x hx=>(h.stk i x hx).kept (keep _ R5),fun i x hx=>?_,h.pg.held (Nat.le_of_eq hsize) fun k hb=>xa k (h.ro k hb),h.ro,h.ro0,h.dle,fun h0=>?_,fun b o e=>by rw [<- hsize];exact h.dro b o e⟩
 ·have:=h.things.kept (own':=own) (w':=w') (keep _ R5)
  show Row w' own .slots 100 3 R.hv (R.ths.set j { o with fl:=l }).length ((R.ths.set j { o with fl:=l }).flatMap ThR.cells);rw[xf,List.length_set];exact this
 ·by_cases e:i=j
  ·subst e
   obtain rfl:{ o with fl:=l }=x:=by rw [List.getElem?_set_self xc] at hx;exact L5b hx
   show Row w' own (.fld i) 92 2 o.fv l.length (A5 l);rw[hfv,hlen]
   exact⟨hrow,fun b hb=>by obtain rfl:fb=b:=by simpa [Value.ownBlock] using hb
                           exact hofb⟩
  ·rw [List.getElem?_set_ne (Ne.symm e)] at hx
   exact (h.fld i x hx).kept (keep _ (by simpa using e))
 ·obtain ⟨b,q,e,hb,hc⟩:=h.draws h0
  exact⟨b,q,e,by rw [<- hsize];exact hb,fun i x hx=>(L0b (w:=w) (a:=⟨b,q+i,none⟩) (xa b (h.dro b q e).2)).trans (hc i x hx)⟩
theorem A8.setTh {R:RfR} {p:ThR} (h:A8 w own mb g R) (hj:R.ths[j]?=some o) (hfv:p.fv=o.fv) (hfl:p.fl=o.fl) (htv:R.hv=.slice (some ⟨tb,0,none⟩) R.ths.length tc) (hotb:own tb=some .slots) (hsize:w.heap.size=w'.heap.size) (hk:∀k,k≠tb->w'.heap[k]?=w.heap[k]?)
  (hrow:w'.ownsRow 0 100 3 (.slice (some ⟨tb,0,none⟩) R.ths.length tc) R.ths.length ((R.ths.set j p).flatMap ThR.cells)):A8 w' own mb g { R with ths:=R.ths.set j p }:=by
 have xd:=h.lt;have keep:∀t,t≠.slots->∀k,own k=some t->w'.heap[k]?=w.heap[k]?/\own k=some t:=fun t ht k hk'=>⟨hk k (fun e=>by rw [e,hotb] at hk';exact ht (L5b hk').symm),hk'⟩
 have xb:=(keep .mach R5 mb h.me).1;have xa:∀k,own k=none->w'.heap[k]?=w.heap[k]?:=fun k hk'=>hk k (fun e=>by rw [e,hotb] at hk';cases hk')
 have xc:=(L1a.1 hj).1;have kc:∀i x,w.cell? ⟨mb,i,none⟩=some x->w'.cell? ⟨mb,i,none⟩=some x:=fun i x hx=>by rw [L0b (w:=w) (a:=⟨mb,i,none⟩) xb];exact hx
 refine⟨fun k t hk'=>by rw [<- hsize];exact xd k t hk',h.me,kc _ _ h.c0,kc _ _ h.c1,kc _ _ h.c2,kc _ _ h.c3,kc _ _ h.c4,kc _ _ h.c5,kc _ _ h.c6,fun i=>by rw [L0c (w:=w) (a:=⟨mb,i,none⟩) xb];exact h.fz i,h.out.kept (keep _ R5),h.called.kept (keep _ R5),?_,fun i x hx=>(h.loc i x hx).kept (keep _ R5),fun i x hx=>(h.stk i x hx).kept (keep _ R5),fun i x hx=>?_,h.pg.held (Nat.le_of_eq hsize) fun k hb=>xa k (h.ro k hb),h.ro,h.ro0,h.dle,fun h0=>?_,fun b o e=>by rw [<- hsize];exact h.dro b o e⟩
 ·show Row w' own .slots 100 3 R.hv (R.ths.set j p).length ((R.ths.set j p).flatMap ThR.cells)
  rw[List.length_set,htv]
  exact⟨hrow,fun b hb=>by obtain rfl:tb=b:=by simpa [Value.ownBlock] using hb
                          exact hotb⟩
 ·by_cases e:i=j
  ·subst e
   obtain rfl:p=x:=by rw [List.getElem?_set_self xc] at hx;exact L5b hx
   rw[hfv,hfl];exact (h.fld i o hj).kept (keep _ R5)
  ·rw [List.getElem?_set_ne (Ne.symm e)] at hx
   exact (h.fld i x hx).kept (keep _ R5)
 ·obtain ⟨b,q,e,hb,hc⟩:=h.draws h0
  exact⟨b,q,e,by rw [<- hsize];exact hb,fun i x hx=>(L0b (w:=w) (a:=⟨b,q+i,none⟩) (xa b (h.dro b q e).2)).trans (hc i x hx)⟩
theorem A8.putFld {R:RfR} {o:ThR} {x y:Val} (h:A8 w own mb g R) (hj:R.ths[j]?=some o) (hi:o.fl[i]?=some x) (hfv:o.fv=.slice (some ⟨fb,0,none⟩) o.fl.length fc) (hofb:own fb=some (.fld j)) :
  A8 ((w.setCell ⟨fb,i*2,none⟩ (.int .u8 y.1)).setCell ⟨fb,i*2+1,none⟩ (.int .i64 y.2)) own mb g { R with ths:=R.ths.set j { o with fl:=o.fl.set i y } } /\
   A2 own w own ((w.setCell ⟨fb,i*2,none⟩ (.int .u8 y.1)).setCell ⟨fb,i*2+1,none⟩ (.int .i64 y.2)):=by
 have hl:=h.fld j o hj;rw[hfv] at hl;have hr:=(World.ownsRow.stored (World.ownsRow.stored hl.1 (i*2) (.int .u8 y.1)).1 (i*2+1) (.int .i64 y.2)).1;rw[<- fA hi] at hr;have xa:∀k,k≠fb->((w.setCell ⟨fb,i*2,none⟩ (.int .u8 y.1)).setCell ⟨fb,i*2+1,none⟩ (.int .i64 y.2)).heap[k]?=w.heap[k]?:=fun k hk=>by
  rw[heap_setCell_other _ _ _ _ hk,heap_setCell_other _ _ _ _ hk]
 exact⟨h.setFld hj hfv hofb R5 xa R5 hr,⟨rfl,rfl,rfl,by simp,fun k hk hno=>xa k (fun e=>by rw [e,hofb] at hno;cases hno),fun _ _=>rfl⟩⟩
theorem A8.putSlot {R:RfR} {o:ThR} (h:A8 w own mb g R) (hj:R.ths[j]?=some o) (htv:R.hv=.slice (some ⟨tb,0,none⟩) R.ths.length tc) (hotb:own tb=some .slots) :
  A8 (w.setCell ⟨tb,j*3+2,none⟩ (.int .i64 x)) own mb g { R with ths:=R.ths.set j { o with slot:=x } }/\A2 own w own (w.setCell ⟨tb,j*3+2,none⟩ (.int .i64 x)):=by
 have hl:=h.things;rw[htv] at hl;have hr:=(World.ownsRow.stored hl.1 (j*3+2) (.int .i64 x)).1;rw[<- G2 (c:=ThR.cells) ThR.cells_len (l:=R.ths) (i:=j) (j:=2) (x:=o) (y:={ o with slot:=x }) (u:=.int .i64 x) hj R4 rfl] at hr;have xa:∀k,k≠tb->(w.setCell ⟨tb,j*3+2,none⟩ (.int .i64 x)).heap[k]?=w.heap[k]?:=fun k hk=>heap_setCell_other _ _ _ _ hk
 exact⟨h.setTh hj rfl rfl htv hotb R5 xa hr,⟨rfl,rfl,rfl,by simp,fun k hk hno=>xa k (fun e=>by rw [e,hotb] at hno;cases hno),fun _ _=>rfl⟩⟩
def X0 (al:List Nat) (i:Nat) (o:ThR):ThR:={ o with fl:=(H4 al i o.abs).2,slot:=if i∈al then o.slot else -1 }
def J8 (al:List Nat) (n:Nat) (l:List ThR):List ThR:=l.mapIdx fun i o=>if i < n then X0 al i o else o
theorem X8 (al:List Nat) (n:Nat) (l:List ThR) (i:Nat):(J8 al n l)[i]?=(l[i]?).map fun o=>if i < n then X0 al i o else o:=by simp [J8,List.getElem?_mapIdx]
theorem aT (al:List Nat) (n:Nat) (l:List ThR):(J8 al n l).length=l.length:=by simp [J8]
theorem vD (al:List Nat) (l:List ThR):J8 al 0 l=l:=by
 refine List.ext_getElem? fun i=>?_
 rw[X8];simp
theorem vC (h:l[i]?=some o):J8 al (i+1) l=(J8 al i l).set i (X0 al i o):=by
 refine List.ext_getElem? fun k=>?_
 have xa:=(L1a.1 h).1;by_cases e:i=k
 ·subst e
  rw[List.getElem?_set_self (by rw [aT];exact xa),X8,h,Option.map_some,if_pos R4]
 ·rw [List.getElem?_set_ne e,X8,X8]
  have:(k < i+1)=(k < i):=propext R4;simp only[this]
theorem a2o (h:l[i]?=some o):(J8 al i l)[i]?=some o:=by
 rw[X8,h,Option.map_some,if_neg R4]
theorem oD (al:List Nat) (l:List ThR):(J8 al l.length l).map ThR.abs=S6 al (l.map ThR.abs)/\(J8 al l.length l).map ThR.slot=N8 al (l.map ThR.slot):=by
 constructor
 ·refine List.ext_getElem? fun i=>?_
  rw[List.getElem?_map,X8,V3,List.getElem?_map]
  cases h:l[i]? with
  | none=>rfl
  | some o =>
   rw[Option.map_some,Option.map_some,Option.map_some,Option.map_some,if_pos (L1a.1 h).1];refine congrArg some (Prod.ext ?_ rfl);exact (T8 al i o.abs).symm
 ·refine List.ext_getElem? fun i=>?_
  rw[List.getElem?_map,X8,Z0,List.getElem?_map]
  cases h:l[i]? with
  | none=>rfl
  | some o =>
   rw[Option.map_some,Option.map_some,Option.map_some,Option.map_some,if_pos (L1a.1 h).1];rfl
def dU (sl:List Int) (al:List Nat) (n:Nat):Nat:=((List.range n).filter fun i=>decide (i∉al) && ((sl[i]?).map fun x=>decide (0<=x)).getD false).length
theorem vU (sl:List Int) (al:List Nat):dU sl al sl.length=gC sl al:=rfl
theorem sO {sl:List Int} (h:sl[i]?=some x):dU sl al (i+1)=dU sl al i+if i∉al/\0<=x then 1 else 0:=by
 unfold dU;rw[List.range_succ,List.filter_append,List.length_append,List.filter_cons,h];by_cases h1:i∈al
 ·simp [h1]
 ·by_cases h2:0<=x <;> simp [h1,h2]
theorem a0v (sl:List Int) (al:List Nat) (n:Nat):dU sl al n<=n:=by
 have:=List.length_filter_le (fun i=>decide (i∉al) && ((sl[i]?).map fun x=>decide (0<=x)).getD false) (List.range n);rw[List.length_range] at this;exact this
end
section
variable {B e i n sz:Nat} {al:List Nat} {o:ThR} {own:Own} {v:Value} {w:World} {xs:List Value}
theorem eR (h:¬(i∈al/\o.kind=3/\(o.fl.headD (0,0)).1=2/\(o.fl.headD (0,0)).2.toNat∉al)):(H4 al i o.abs).2=o.fl:=by
 unfold H4;rw[if_neg (show ¬(i∈al/\o.abs.1=3/\(o.abs.2.headD (0,0)).1=2/\(o.abs.2.headD (0,0)).2.toNat∉al) from h)];rfl
theorem vN (h:i∈al/\o.kind=3/\(o.fl.headD (0,0)).1=2/\(o.fl.headD (0,0)).2.toNat∉al):(H4 al i o.abs).2=o.fl.set 0 (0,0):=by
 unfold H4;rw[if_pos (show i∈al/\o.abs.1=3/\(o.abs.2.headD (0,0)).1=2/\(o.abs.2.headD (0,0)).2.toNat∉al from h)];rfl
theorem qF {own':Own} {U:World} (h:w.ownsRow B e sz v n xs) (ht:A2 own w own' U) (ho:∀k,B<=k->own k=none):U.ownsRow B e sz v n xs:=by
 refine⟨h.1,?_⟩;rcases h.2 with h2 | ⟨g,cap,cur,q1,q2,q3,q4⟩
 ·exact L4a h2
 ·exact L4b ⟨g,cap,cur,q1,q2,(ht.block g (L2b.1 q3).1 (ho g q2)).trans q3,q4⟩
theorem Z5 {α:Type} {l:List α} {o:α} (h:l[i]?=some o):l.set i o=l:=by
 obtain⟨hl,e⟩:=L1a.1 h;rw[<- e];exact List.set_getElem_self hl
theorem qS {b:Nat} (h:w.ownsRow B e sz v n xs) (hv:v.ownBlock=some b) (j:Nat):w.frozen? ⟨b,j,none⟩=false:=by
 rcases h.2 with ⟨rfl,_⟩ | ⟨g,xb,xa,rfl,_,hg,_⟩
 ·cases hv
 ·obtain rfl:g=b:=by simpa [Value.ownBlock] using hv
  simp[World.frozen?,hg]
structure zY (R:RfR):Prop where
 slot:∀o,o∈R.ths -> -1<=o.slot
 weak:∀o,o∈R.ths->o.kind=3->o.fl.length=1
theorem iQ {W:World} {mb:Nat} {g:PgR} {R:RfR} (h:A8 W own mb g R) (hb:fD R) (hr:bX R) (hs:zY R) :
  Calls prog 65 #[.pointer (some ⟨mb,0,none⟩)] W fun e w'=>e=.returned (.int .i64 (gC (R.ths.map ThR.slot) (A1 R.abs):Int))/\A8 w' own mb g { R with ths:=J8 (A1 R.abs) R.ths.length R.ths }/\A2 own W own w':=by
 have xw:=hid (cB h hb hr);have HA:=hid h;have yl:=hid hr;have yd:=hid hs;have yy:=hid hb;have hm:=h.lt _ _ h.me;have yq:Hid (∀k,W.heap.size<=k->own k=none):=hid fun k hk=>by
  cases e:own k with
  | none=>rfl
  | some t=>have:=h.lt k t e;omega
 have yx:=hb.ths;have yz:(A1 R.abs).length<=R.ths.length:=by
  have hq:=(bI hr.within hr.roots);have:=L1 hq.nodup hq.lt;rw[show R.abs.obs.length=R.ths.length from List.length_map _] at this;exact this
 generalize hAL:A1 R.abs=al at *
 clear h hb hr hs hAL;go_enter func65,ntmps65;go_wp2_with (go_at_call 86;refine xw.out.mono ?_;rintro e w1 ⟨v1,rfl,yh,xy⟩)
 have ye:=hid yh;have yj:=hid xy;have yp:=hid (HA.out.same xy);clear yh xy;obtain⟨la,lc,rfl,_⟩:=O3 ye.out;go_wp2_with fail;go_loopw [4,5] (fun vf vi wr=>∃i:Nat,i<=R.ths.length/\vi=.int .i64 i/\vf=.int .i64 (dU (R.ths.map ThR.slot) al i:Int)/\A8 wr own mb g { R with ths:=J8 al i R.ths }/\A2 own w1 own wr) (fun _ vi _=>R.ths.length - (intOf vi).toNat)
 case atStart=>exact ⟨0,L4c _,rfl,rfl,by rw [vD];exact yp.out,A2.refl _ _⟩
 case round =>
  obtain⟨i,hi,rfl,rfl,xb,xi⟩:=hrel;have yw:=xb.lt _ _ xb.me;have xq:=hid xb;have xn:=hid xi;have yt:=a0v (R.ths.map ThR.slot) al i;obtain⟨ta,yv,yc,_,xc⟩:=Row.cells ThR.cells_len xb.things;have m5:=xb.c5;rw[yc] at m5;rw[show ({ R with ths:=J8 al i R.ths } : RfR).ths.length=R.ths.length from aT _ _ _] at m5;have xd:=qF ye.out xi yq.out;obtain⟨zd,zb,e1,xa⟩:=O3 xd
  cases e1;have xp:Hid (∀j:Nat,Calls prog 103 #[.slice la al.length lc,.int .i64 (j:Int)] wr fun e w'=>e=.returned (.int .i64 (D8 (al.map fun n:Nat=>(n:Int)) 0 (j:Int)))/\w'=wr):=hid fun j=>by
   have:=eU la lc (al.map fun n:Nat=>(n:Int)) (j:Int) xa (by rw [List.length_map];omega);rw[List.length_map] at this;exact this
  by_cases hlt:i < R.ths.length
  ·obtain ⟨o,ho⟩:∃o,R.ths[i]?=some o:=⟨_,L1b hlt⟩
   have xe:({ R with ths:=J8 al i R.ths } : RfR).ths[i]?=some o:=a2o ho;have xu:=hid xe;have ya:=hid (vC (al:=al) ho);have yb:=hid (sO (sl:=R.ths.map ThR.slot) (al:=al) (i:=i) (x:=o.slot) (by rw [List.getElem?_map,ho];rfl));obtain⟨tb,rfl,za,xz,ym,xh⟩:=xc (by rw [show ({ R with ths:=J8 al i R.ths } : RfR).ths.length=R.ths.length from aT _ _ _];omega);have t0:wr.cell? ⟨tb,i*3,none⟩=some (.int .u8 o.kind):=xh i 0 o _ xe R3 rfl
   have t1:wr.cell? ⟨tb,i*3+1,none⟩=some o.fv:=xh i 1 o _ xe R3 rfl;have t2:wr.cell? ⟨tb,i*3+2,none⟩=some (.int .i64 o.slot):=xh i 2 o _ xe R3 rfl;have tz:=ym (i*3+2);have zc:(i:Int) < (R.ths.length:Int):=by omega
   have xk:=cE (l:=al) (j:=i);obtain⟨fa,fc,xf,_,xm⟩:=(xb.fld i o xe).vals;have yr:({ R with ths:=J8 al i R.ths } : RfR).ths.length=R.ths.length:=aT _ _ _;have xo:Hid (A8 (wr.setCell ⟨tb,i*3+2,none⟩ (.int .i64 (-1))) own mb g { R with ths:=(J8 al i R.ths).set i { o with slot := -1 } }/\A2 own wr own (wr.setCell ⟨tb,i*3+2,none⟩ (.int .i64 (-1)))):=hid (xb.putSlot xe yc xz)
   have ys:=yd.out.slot o (L2a ho);by_cases hin:i∈al
   ·have hq:¬D8 (al.map fun n:Nat=>(n:Int)) 0 (i:Int) < 0:=fun cc=>xk.1 cc hin
    have yu:0<=D8 (al.map fun n:Nat=>(n:Int)) 0 (i:Int):=by omega
    have xj:Hid (dU (R.ths.map ThR.slot) al (i+1)=dU (R.ths.map ThR.slot) al i):=hid (by rw [yb.out,if_neg (fun c=>c.1 hin)];rfl);have xt:Hid (∀p:ThR,X0 al i o=p->(J8 al i R.ths).set i p=J8 al (i+1) R.ths):=hid fun p hp=>by rw [ya.out,hp]
    by_cases hk3:o.kind=3
    ·have xr:=yd.out.weak o (L2a ho) hk3
     obtain⟨x,hx⟩:∃x,o.fl=[x]:=List.length_eq_one_iff.1 xr
     obtain⟨fb,rfl,ze,xg⟩:=xm R4;obtain⟨y0,y1⟩:=xg 0 x (by rw [hx];rfl);rw[Nat.zero_mul] at y0 y1;rw[xf,xr] at t1;rw[hk3] at t0;have xv:own fb=some (.fld i):=(xb.fld i o xe).2 fb (by rw [xf];rfl);have xx:Hid (A8 ((wr.setCell ⟨fb,0,none⟩ (.int .u8 0)).setCell ⟨fb,0+1,none⟩ (.int .i64 0)) own mb g { R with ths:=(J8 al i R.ths).set i { o with fl:=o.fl.set 0 (0,0) } }/\A2 own wr own ((wr.setCell ⟨fb,0,none⟩ (.int .u8 0)).setCell ⟨fb,0+1,none⟩ (.int .i64 0))):=hid (xb.putFld (i:=0) (x:=x) (y:=(0,0)) xe (by rw [hx];rfl) xf xv)
     have yf:∀q,wr.frozen? ⟨fb,q,none⟩=false:=fun q=>qS (xb.fld i o xe).1 (by rw [xf];rfl) q
     have z0:=yf 0;have z1:=yf 1;by_cases hx2:x.1=2
     ·obtain ⟨x0,xl⟩:=yl.out.flds o (L2a ho) x (by rw [hx];simp) hx2
      obtain⟨j,hj⟩:=L5c x0;rw[hx2] at y0;rw[hj] at y1;have yi:x.2.toNat=j:=by rw [hj];rfl
      have xs:=cE (l:=al) (j:=j);by_cases hja:j∈al
      ·have yo:¬D8 (al.map fun n:Nat=>(n:Int)) 0 (j:Int) < 0:=fun cc=>xs.1 cc hja
       have HC:Hid (X0 al i o=o):=hid (by
        unfold X0;rw[eR (fun c=>c.2.2.2 (by rw [hx];show x.2.toNat∈al;rw [yi];exact hja)),if_pos hin])
       clear xb xi xc xd xa xh xm xg xf xe ho xk xs xo;go_wp2_with (go_at_call 103;refine (xp.out _).mono ?_;rintro e w' ⟨rfl,hw⟩;rw [hw];clear hw w')
       go_roundw
       case rel=>exact ⟨i+1,by omega,by go_num,by rw [xj.out],by
        rw[<- xt.out _ HC.out,Z5 xu.out];exact xq.out,xn.out⟩
       case measure=>simp [intOf];omega
      ·have yo:D8 (al.map fun n:Nat=>(n:Int)) 0 (j:Int) < 0:=xs.2 hja
       have HC:Hid (X0 al i o={ o with fl:=o.fl.set 0 (0,0) }):=hid (by
        unfold X0;rw[vN ⟨hin,hk3,by rw [hx];exact hx2,by rw [hx];show x.2.toNat∉al;rw [yi];exact hja⟩,if_pos hin])
       clear xb xi xc xd xa xh xm xg xf xe ho xk xs xo;go_wp2_with (go_at_call 103;refine (xp.out _).mono ?_;rintro e w' ⟨rfl,hw⟩;rw [hw];clear hw w')
       go_roundw
       case rel=>exact ⟨i+1,by omega,by go_num,by rw [xj.out],by
        rw[<- xt.out _ HC.out];exact xx.out.1,xn.out.trans xx.out.2⟩
       case measure=>simp [intOf];omega
     ·have yk:(x.1 == 2)=false:=L2c.2 hx2
      have HC:Hid (X0 al i o=o):=hid (by
       unfold X0;rw[eR (fun c=>hx2 (by have:=c.2.2.1;rw [hx] at this;exact this)),if_pos hin])
      clear xb xi xc xd xa xh xm xg xf xe ho xk xo xx;go_wp2_with (go_at_call 103;refine (xp.out _).mono ?_;rintro e w' ⟨rfl,hw⟩;rw [hw];clear hw w')
      go_roundw
      case rel=>exact ⟨i+1,by omega,by go_num,by rw [xj.out],by
       rw[<- xt.out _ HC.out,Z5 xu.out];exact xq.out,xn.out⟩
      case measure=>simp [intOf];omega
    ·have yn:(o.kind == 3)=false:=L2c.2 hk3
     have HC:Hid (X0 al i o=o):=hid (by
      unfold X0;rw[eR (fun c=>hk3 c.2.1),if_pos hin])
     clear xb xi xc xd xa xh xm xf xe ho xk xo;go_wp2_with (go_at_call 103;refine (xp.out _).mono ?_;rintro e w' ⟨rfl,hw⟩;rw [hw];clear hw w')
     go_roundw
     case rel=>exact ⟨i+1,by omega,by go_num,by rw [xj.out],by
      rw[<- xt.out _ HC.out,Z5 xu.out];exact xq.out,xn.out⟩
     case measure=>simp [intOf];omega
   ·have hq:D8 (al.map fun n:Nat=>(n:Int)) 0 (i:Int) < 0:=xk.2 hin
    have HC:Hid (X0 al i o={ o with slot := -1 }):=hid (by
     unfold X0;rw[eR (fun c=>hin c.1),if_neg hin])
    by_cases hs0:0<=o.slot
    ·clear xb xi xc xd xa xh xm xf xe ho xk t0 t1
     go_wp2_with (go_at_call 103;refine (xp.out i).mono ?_;rintro e w' ⟨rfl,hw⟩;rw [hw];clear hw w')
     go_roundw
     case rel=>exact ⟨i+1,by omega,by go_num,by rw [yb.out,if_pos ⟨hin,hs0⟩];go_num,by rw [ya.out,HC.out];exact xo.out.1,xn.out.trans xo.out.2⟩
     case measure=>simp [intOf];omega
    ·have yg:o.slot = -1:=by omega
     have HE:Hid (({ o with slot := -1 } : ThR)=o):=hid (by rw [<- yg]);rw[yg] at t2;clear xb xi xc xd xa xh xm xf xe ho xk t0 t1;go_wp2_with (go_at_call 103;refine (xp.out i).mono ?_;rintro e w' ⟨rfl,hw⟩;rw [hw];clear hw w')
     go_roundw
     case rel=>exact ⟨i+1,by omega,by go_num,by rw [yb.out,if_neg (fun c=>by have:=c.2;omega)];rfl,by
      rw[ya.out,HC.out,HE.out,Z5 xu.out];exact xq.out,xn.out⟩
     case measure=>simp [intOf];omega
  ·obtain rfl:i=R.ths.length:=by omega
   clear xb xi xc xd xa yc;go_wp2_with fail;go_ret;exact⟨by rw [<- vU,List.length_map];rfl,xq.out,(A2.of_below yj.out).trans xn.out⟩
end
section
variable {B mb:Nat} {R:RfR} {g:PgR} {own own':Own} {w w':World}
theorem A8.edit {R':RfR} (h:A8 w own mb g R) (hsize:w.heap.size<=w'.heap.size) (hlt:∀k t,own' k=some t->k < w'.heap.size) (hme:own' mb=some .mach)
  (hno:∀k,own k=none->k < w.heap.size->(g.blk k\/k=0\/∃o,R.da=some ⟨k,o,none⟩)->own' k=none/\w'.heap[k]?=w.heap[k]?)
  (c0:w'.cell? ⟨mb,0,none⟩=w.cell? ⟨mb,0,none⟩) (c1:w'.cell? ⟨mb,1,none⟩=some (.int .i64 (R'.cap:Int))) (c2:w'.cell? ⟨mb,2,none⟩=some (.int .i64 R'.st)) (c3:w'.cell? ⟨mb,3,none⟩=some R'.ov) (c4:w'.cell? ⟨mb,4,none⟩=some R'.cv) (c5:w'.cell? ⟨mb,5,none⟩=some R'.hv) (c6:w'.cell? ⟨mb,6,none⟩=w.cell? ⟨mb,6,none⟩) (fz:∀j,w'.frozen? ⟨mb,j,none⟩=false)
  (out:Row w' own' .out 3 1 R'.ov R'.out.length (R'.out.map fun n=>.int .i64 n)) (called:Row w' own' .called 86 4 R'.cv R'.frs.length (R'.frs.flatMap FrR.cells)) (things:Row w' own' .slots 100 3 R'.hv R'.ths.length (R'.ths.flatMap ThR.cells))
  (loc:∀i f,R'.frs[i]?=some f->Row w' own' (.loc i) 92 2 f.lv f.loc.length (A5 f.loc)) (stk:∀i f,R'.frs[i]?=some f->Row w' own' (.stk i) 92 2 f.sv f.stk.length (A5 f.stk)) (fld:∀j o,R'.ths[j]?=some o->Row w' own' (.fld j) 92 2 o.fv o.fl.length (A5 o.fl))
  (hdo:∀b o,R.da=some ⟨b,o,none⟩->own' b=none) (hda:R'.da=R.da) (hdc:R'.dc=R.dc) (hdr:R'.dr=R.dr):A8 w' own' mb g R':=by
 have hz:0 < w.heap.size:=Nat.lt_of_le_of_lt (L4c _) (h.lt _ _ h.me);refine⟨hlt,hme,c0.trans h.c0,c1,c2,c3,c4,c5,by rw [c6,hda,hdc,hdr];exact h.c6,fz,out,called,things,loc,stk,fld,h.pg.held hsize fun k hk=>(hno k (h.ro k hk) (h.pg.blk_lt hk) (L4a hk)).2,fun k hk=>(hno k (h.ro k hk) (h.pg.blk_lt hk) (L4a hk)).1,(hno 0 h.ro0 hz (L4b (L4a rfl))).1,by rw [hdc,hdr];exact h.dle,fun h0=>?_,fun b o e=>?_⟩
 ·rw [hdr] at h0 ⊢
  rw[hda];obtain⟨b,q,e,hb,hc⟩:=h.draws h0;exact⟨b,q,e,L0a hb hsize,fun i x hx=>(L0b (w:=w) (a:=⟨b,q+i,none⟩) (hno b (h.dro b q e).2 hb (L4b (L4b ⟨q,e⟩))).2).trans (hc i x hx)⟩
 ·rw [hda] at e
  exact⟨L0a (h.dro b o e).1 hsize,hdo b o e⟩
structure aH (B:Nat) (own:Own) (w:World) (own':Own) (w':World):Prop where
 os:w'.os=w.os
 tape:w'.tape=w.tape
 output:w'.output=w.output
 size:w.heap.size<=w'.heap.size
 block:∀k,k < B->own k=none->w'.heap[k]?=w.heap[k]?
 old:∀k,k < B->own' k=own k
theorem aH.trans {own'':Own} {w'':World} (h:aH B own w own' w') (k:aH B own' w' own'' w''):aH B own w own'' w'' :=
 ⟨k.os.trans h.os,k.tape.trans h.tape,k.output.trans h.output,L5a h.size k.size,
  fun i hi hn=>(k.block i hi (by rw [h.old i hi];exact hn)).trans (h.block i hi hn),
  fun i hi=>(k.old i hi).trans (h.old i hi)⟩
theorem A2.touB (h:A2 own w own' w') {B:Nat} (hB:B<=w.heap.size):aH B own w own' w' :=
 ⟨h.os,h.tape,h.output,h.size,fun k hk hn=>h.block k (L0a hk hB) hn,fun k hk=>h.old k (L0a hk hB)⟩
theorem aH.touched (h:aH w.heap.size own w own' w'):A2 own w own' w':=⟨h.os,h.tape,h.output,h.size,h.block,h.old⟩
theorem aH.of_below (h:Below B w w'):aH B own w own w':=⟨h.os,h.tape,h.output,h.size,fun k hk _=>h.block k hk,fun _ _=>rfl⟩
theorem A8.pushTh {R:RfR} {p:ThR} {hv:Value} (h:A8 w own mb g R) (hsize:w.heap.size<=w'.heap.size)
  (hk:∀k,k < w.heap.size->k≠mb->own k≠some .slots->w'.heap[k]?=w.heap[k]?)
  (hc:∀j,j≠5->w'.cell? ⟨mb,j,none⟩=w.cell? ⟨mb,j,none⟩) (hc5:w'.cell? ⟨mb,5,none⟩=some hv) (hfz:∀j,w'.frozen? ⟨mb,j,none⟩=false)
  (hrow:w'.ownsRow 0 100 3 hv (R.ths.length+1) ((R.ths++[p]).flatMap ThR.cells)) (hon:E3 w own hv .slots)
  (hfld:w.ownsRow 0 92 2 p.fv p.fl.length (A5 p.fl)) (hnb:N4 own g p.fv) (hnd:∀b o,R.da=some ⟨b,o,none⟩->p.fv.ownBlock≠some b) :
  A8 w' ((own.upd p.fv.ownBlock (.fld R.ths.length)).upd hv.ownBlock .slots) mb g { R with hv:=hv,ths:=R.ths++[p] }/\∀k,k < w.heap.size->p.fv.ownBlock≠some k->((own.upd p.fv.ownBlock (.fld R.ths.length)).upd hv.ownBlock .slots) k=own k:=by
 have xd:=h.lt;have xc:∀k t,own k=some t->((own.upd p.fv.ownBlock (.fld R.ths.length)).upd hv.ownBlock .slots) k=some t:=fun k t hkt=>by
  unfold Own.upd;by_cases e1:hv.ownBlock=some k
  ·rw [if_pos e1]
   rcases hon k e1 with e | e
   ·rw [e] at hkt;exact hkt
   ·have:=xd k t hkt;omega
  ·rw [if_neg e1,if_neg (fun e=>by have:=(hnb k e).1;rw [hkt] at this;cases this)]
   exact hkt
 have xb:∀k,own k=none->k < w.heap.size->p.fv.ownBlock≠some k->((own.upd p.fv.ownBlock (.fld R.ths.length)).upd hv.ownBlock .slots) k=none:=fun k hkn hks hkp=>by
  unfold Own.upd;rw[if_neg (fun e=>by
   rcases hon k e with e | e
   ·rw [hkn] at e;cases e
   ·omega),if_neg hkp]
  exact hkn
 have keep:∀t,t≠.mach->t≠.slots->∀k,own k=some t->w'.heap[k]?=w.heap[k]?/\((own.upd p.fv.ownBlock (.fld R.ths.length)).upd hv.ownBlock .slots) k=some t:=fun t h1 h2 k hk' =>
  ⟨hk k (xd k t hk') (fun e=>by rw [e,h.me] at hk';exact h1 (L5b hk').symm) (by rw [hk'];exact fun e=>h2 (L5b e)),xc k t hk'⟩
 have xe:∀k,k < w.heap.size->own k=none->w'.heap[k]?=w.heap[k]?:=fun k hk1 hk2=>hk k hk1 (fun e=>by rw [e,h.me] at hk2;cases hk2) (by rw [hk2];simp)
 refine⟨h.edit (R':={ R with hv:=hv,ths:=R.ths++[p] }) hsize (fun k t hk'=>?_) (xc _ _ h.me) (fun k hn hks hor=>⟨xb k hn hks ?_,xe k hks hn⟩) (hc 0 R3) ((hc 1 R3).trans h.c1) ((hc 2 R3).trans h.c2) ((hc 3 R3).trans h.c3) ((hc 4 R3).trans h.c4) hc5 (hc 6 R3) hfz
  (h.out.kept (keep _ R5 R5)) (h.called.kept (keep _ R5 R5)) ⟨by rw [show ({ R with hv:=hv,ths:=R.ths++[p] } : RfR).ths.length=R.ths.length+1 by simp];exact hrow,fun b hb=>by unfold Own.upd;rw [if_pos hb]⟩ (fun i x hx=>(h.loc i x hx).kept (keep _ R5 R5)) (fun i x hx=>(h.stk i x hx).kept (keep _ R5 R5)) (fun i x hx=>?_) (fun b o e=>xb b (h.dro b o e).2 (h.dro b o e).1 (hnd b o e)) rfl rfl rfl,fun k hks hkp=>?_⟩
 ·unfold Own.upd at hk'
  split at hk'
  ·rename_i e;exact (hrow.lt k e).2
  ·split at hk'
   ·rename_i e;exact L0a (hfld.lt k e).2 hsize
   ·exact L0a (xd k t hk') hsize
 ·rcases hor with hb | rfl | ⟨o,e⟩
  ·exact fun e=>(hnb k e).2.1 k hb rfl
  ·exact fun e=>(hnb 0 e).2.2 rfl
  ·exact hnd k o e
 ·by_cases e:i=R.ths.length
  ·subst e
   obtain rfl:p=x:=by
    have:(R.ths++[p])[R.ths.length]?=some x:=hx;simpa using this
   refine⟨A6 hfld fun b hb=>xe b (hfld.lt b hb).2 (hnb b hb).1,fun b hb=>?_⟩;unfold Own.upd;rw[if_neg (fun e1=>by
    rcases hon b e1 with e2 | e2
    ·have:=(hnb b hb).1;rw [e2] at this;cases this
    ·have:=(hfld.lt b hb).2;omega),if_pos hb]
  ·have xa:(R.ths++[p])[i]?=some x:=hx
   have hi:i < R.ths.length:=by
    have:=(L1a.1 xa).1;simp at this;omega
   rw[List.getElem?_append_left hi] at xa;exact (h.fld i x xa).kept (keep _ R5 R5)
 ·cases e:own k with
  | none=>exact xb k e hks hkp
  | some t=>exact xc k t e
end
end Go.Proofs.YtbkmgoffiigdbaaGreatDoor
