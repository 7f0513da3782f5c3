import Derived.Test.YtbkmgoffiigdbaaGreatDoorVAe
import Derived.Test.YtbkmgoffiigdbaaGreatDoorVAb
namespace Go.Proofs.YtbkmgoffiigdbaaGreatDoor
open Go.RowKit Go.Sort Go.Proofs.Tryz
set_option maxHeartbeats 8000000
set_option maxRecDepth 100000
section
variable {B C e i n sz:Nat} {R:RfR} {U W w:World} {a:Option Addr} {l:List Val} {met:List Nat} {obs:List Ob} {own:Own} {v:Value} {xs:List Value}
def ThR.abs (o:ThR):Int × List Val:=(o.kind,o.fl)
def RfR.abs (R:RfR):McA:=⟨R.st,R.out,R.frs.map FrR.abs,R.ths.map ThR.abs,R.dr⟩
theorem O2.src (h:O2 W B a l):0 < l.length->∃d,a=some d/\∀j u,(A5 l)[j]?=some u->W.cell? (d.add j)=some u:=fun h0=>by
 obtain⟨b,rfl,hb,hc⟩:=h h0;refine⟨_,rfl,fun j u hu=>?_⟩;have hj:=(L1a.1 hu).1;rw[D3] at hj;obtain⟨x,hx⟩:∃x,l[j / 2]?=some x:=⟨_,L1b R4⟩
 have hg:=D6 G1 hx (show j % 2 < 2 by omega);rw[show j / 2*2+j % 2=j by omega] at hg;obtain⟨c0,c1⟩:=hc _ x hx;have xa:(O1 x)[j % 2]?=some u:=hg.symm.trans hu;rw[X3];rcases Nat.mod_two_eq_zero_or_one j with e | e
 ·rw [e] at xa
  rw[show j=j / 2*2 by omega,c0];exact xa
 ·rw [e] at xa
  rw[show j=j / 2*2+1 by omega,c1];exact xa
theorem O2.later (h:O2 W B a l) (hB:Below B W U):O2 U B a l:=fun h0=>by
 obtain⟨b,e,hb,hc⟩:=h h0;refine⟨b,e,hb,fun i x hx=>?_⟩;rw[hB.cell (p:=⟨b,_,none⟩) hb,hB.cell (p:=⟨b,_,none⟩) hb];exact hc i x hx
theorem Row.vals {t:Tag} (h:Row w own t 92 2 v l.length (A5 l)):∃a cp,v=.slice a l.length cp/\l.length<=cp/\O2 w w.heap.size a l:=by
 obtain⟨a,cp,e,xb,hc⟩:=Row.cells G1 h;refine⟨a,cp,e,xb,fun h0=>?_⟩;obtain⟨b,e1,hb,_,_,xa⟩:=hc h0;exact⟨b,e1,hb,fun i x hx=>⟨xa i 0 x _ hx R3 rfl,xa i 1 x _ hx R3 rfl⟩⟩
theorem kI (l:List FrA) (k:Nat) (h:∀f,f∈l->f.loc.length<=k/\f.stk.length<=k):(B7 l).length<=l.length*(2*k):=by
 induction l with
 | nil=>simp [B7]
 | cons f l ih =>
  have h1:=ih fun x hx=>h x (by simp [hx])
  have h2:=h f R5;unfold B7 at h1 ⊢;simp only[List.flatMap_cons,List.length_append,List.length_cons];rw[Nat.add_mul];omega
theorem rJ {l:List FrA} {f:FrA} (h:l[i]?=some f):B7 (l.take (i+1))=B7 (l.take i)++f.loc++f.stk:=by
 have e:l.take (i+1)=l.take i++[f]:=by rw [List.take_add_one,h];rfl
 rw[e];simp[B7,List.append_assoc]
structure fI (R:RfR):Prop where
 frs:R.frs.length<=1000
 loc:∀f,f∈R.frs->f.loc.length<=1000/\f.stk.length<=1000
 ths:R.ths.length<=100000000000
 fld:∀o,o∈R.ths->o.fl.length<=1000
structure cI (R:RfR):Prop where
 vals:∀v,v∈B7 (R.frs.map FrR.abs)->v.1=2->0<=v.2/\v.2.toNat < R.ths.length
 flds:∀o,o∈R.ths->∀v,v∈o.fl->v.1=2->0<=v.2/\v.2.toNat < R.ths.length
theorem cI.within (h:cI R):eA R.abs.obs:=fun o ho v hv h2=>by
 obtain⟨p,hp,rfl⟩:=List.mem_map.1 ho;show _ < (R.ths.map ThR.abs).length;rw[List.length_map];exact (h.flds p hp v hv h2).2
theorem cI.roots (h:cI R):∀v,v∈B7 R.abs.frs->v.1=2->v.2.toNat < R.abs.obs.length:=fun v hv h2=>by
 show _ < (R.ths.map ThR.abs).length;rw[List.length_map];exact (h.vals v hv h2).2
theorem gG {α:Type} {c:α->List Value} (hc:∀x,(c x).length=sz) {w:World} {B e:Nat} {v:Value} {l:List α} (h:w.ownsRow B e sz v l.length (l.flatMap c)) :
  ∃a cp,v=.slice a l.length cp/\l.length<=cp/\(0 < l.length->∃b,a=some ⟨b,0,none⟩/\B<=b/\b < w.heap.size/\(∀j,w.frozen? ⟨b,j,none⟩=false)/\∀(i j:Nat) (x:α) (u:Value),l[i]?=some x->j < sz->(c x)[j]?=some u->w.cell? ⟨b,i*sz+j,none⟩=some u):=by
 rcases h.2 with ⟨rfl,h0⟩ | ⟨g,xb,xc,rfl,hB,hg,h3,h4,h5,h6⟩
 ·exact ⟨none,0,by rw [h0],by omega,fun hp=>by omega⟩
 ·refine ⟨_,xb,rfl,h3,fun _=>⟨g,rfl,hB,(L2b.1 hg).1,fun j=>by simp [World.frozen?,hg],fun i j x u hx hj hu=>?_⟩⟩
  have h7:=D6 hc hx hj;rw[hu,<- h6] at h7;have xa:i*sz+j < l.length*sz:=by
   have h8:=(L1a.1 hx).1;have:(i+1)*sz<=l.length*sz:=Nat.mul_le_mul_right _ h8;rw[Nat.succ_mul] at this;omega
  rw[List.getElem?_take,if_pos xa] at h7;simp only[World.cell?,hg];simpa using h7
theorem S8 (h:w.ownsRow B 92 2 v l.length (A5 l)):∃a cp,v=.slice a l.length cp/\l.length<=cp/\O2 w w.heap.size a l:=by
 obtain⟨a,cp,e,xb,hc⟩:=gG G1 h;refine⟨a,cp,e,xb,fun h0=>?_⟩;obtain⟨b,e1,_,hb,_,xa⟩:=hc h0;exact⟨b,e1,hb,fun i x hx=>⟨xa i 0 x _ hx R3 rfl,xa i 1 x _ hx R3 rfl⟩⟩
theorem H6 (h:w.ownsRow B e sz v n xs) (hb:Below w.heap.size w U):U.ownsRow B e sz v n xs:=by
 refine⟨h.1,?_⟩;rcases h.2 with h2 | ⟨g,cap,cur,q1,q2,q3,q4⟩
 ·exact Or.inl h2
 ·exact Or.inr ⟨g,cap,cur,q1,q2,(hb.block g (L2b.1 q3).1).trans q3,q4⟩
theorem fA (h:w.ownsRow B e sz v n xs) (hc:C<=B):w.ownsRow C e sz v n xs:=by
 refine⟨h.1,?_⟩;rcases h.2 with h2 | ⟨g,cap,cur,q1,q2,q3⟩
 ·exact Or.inl h2
 ·exact Or.inr ⟨g,cap,cur,q1,Nat.le_trans hc q2,q3⟩
theorem O2.mono (h:O2 W B a l) (hB:B<=C):O2 W C a l:=fun h0=>by
 obtain⟨b,e,hb,hc⟩:=h h0;exact⟨b,e,L0a hb hB,hc⟩
theorem uT (R:RfR):A1 R.abs=H4 (R.ths.map ThR.abs) (R.ths.map ThR.abs).length 0 (C0 [] (B7 (R.frs.map FrR.abs))):=rfl
theorem yN {j:Nat} {o:Ob} (hi:met[i]?=some j) (ho:obs[j]?=some o):H4 obs (n+1) i met=H4 obs n (i+1) (if o.1=3 then met else C0 met o.2):=by
 rw[H4,hi];simp only[ho]
theorem a1O : H4 obs n met.length met=met:=by
 cases n with
 | zero=>rfl
 | succ n=>rw [H4,List.getElem?_eq_none (L1c _)]
theorem yO (h:∀v,v∈l->v.1=2->v.2.toNat < obs.length):cX obs 0 (C0 [] l) :=
 ⟨O8 l [] R5,bJ R5 h,fun k j hk=>by omega⟩
theorem cP {mb:Nat} {g:PgR} (h:A8 W own mb g R) (hb:fI R) (hr:cI R) :
  Calls prog 86 #[.pointer (some ⟨mb,0,none⟩)] W fun e w'=>∃v,e=.returned v/\w'.ownsRow W.heap.size 3 1 v (A1 R.abs).length (X6 (A1 R.abs))/\Below W.heap.size W w':=by
 obtain⟨xp,hi,hz,yu,yr⟩:=info_parts I5;have HI:=hid hi;have HZ:=hid hz;have yp:=hid yu;have yl:=hid yr;have hm:=h.lt _ _ h.me;obtain⟨ca,zx,yv,_,yo⟩:=Row.cells FrR.cells_len h.called;obtain⟨ta,zq,yf,_,yg⟩:=Row.cells ThR.cells_len h.things;have HC:=hid yo;have HT:=hid yg;have zk:=hid h.loc;have zf:=hid h.stk;have zb:=hid h.fld;have m4:=h.c4;have m5:=h.c5;rw[yv] at m4;rw[yf] at m5
 have M5:=hid m5;have M4:=hid m4;have xt:=hid hb;have xx:=hid hr;have qb:=hb.frs;have ze:(R.frs.length:Int)<=1000:=by omega
 have zy:=hb.ths;clear hi hz yu yr yo yg h m5 m4 hb hr yv yf;go_enter func86,ntmps86;go_wp2_with fail;go_loopw [3,4] (fun vl vi wr=>∃i:Nat,i<=R.frs.length/\vi=.int .i64 i/\wr.ownsRow W.heap.size 92 2 vl (B7 ((R.frs.map FrR.abs).take i)).length (A5 (B7 ((R.frs.map FrR.abs).take i)))/\Below W.heap.size W wr) (fun _ vi _=>R.frs.length - (intOf vi).toNat)
 case atStart=>exact ⟨0,Nat.zero_le _,rfl,World.ownsRow_nil _ _ _ _,Below.refl _ _⟩
 case round =>
  obtain⟨i,hi,rfl,xb,xa⟩:=hrel;have xd:=hid xa;have xh:=hid xb;have zu:mb < wr.heap.size:=L0a hm xa.size;have m4:=keep xa hm M4.out;by_cases hlt:i < R.frs.length
  ·obtain ⟨f,hf⟩:∃f,R.frs[i]?=some f:=⟨_,L1b hlt⟩
   obtain⟨cb,rfl,xu,_,_,ya⟩:=HC.out R4;obtain⟨la,lc,yn,_,hl⟩:=(zk.out i f hf).vals;obtain⟨sa,sc,yx,_,hs⟩:=(zf.out i f hf).vals;have k2:=ya i 2 f _ hf R3 rfl;have k3:=ya i 3 f _ hf R3 rfl;rw[yn] at k2;rw[yx] at k3;have zm:=hid ((hl.later xd.out).src);have zl:Hid (∀U,Below W.heap.size W U->(0 < f.stk.length->∃d,sa=some d/\∀j u,(A5 f.stk)[j]?=some u->U.cell? (d.add j)=some u)):=fun U hU=>(hs.later hU).src
   have zg:=hid k3;rw[<- xa.cell (p:=⟨cb,_,none⟩) xu] at k2 k3;have zs:cb < wr.heap.size:=L0a xu xa.size;have zr:=xt.out.loc f (L2a hf);have xo:=kI ((R.frs.map FrR.abs).take i) 1000 fun x hx=>by
    obtain⟨y,hy,rfl⟩:=List.mem_map.1 (List.mem_of_mem_take hx);exact xt.out.loc y hy
   rw[List.length_take,List.length_map] at xo;have zd:(B7 ((R.frs.map FrR.abs).take i)).length<=2000000:=by
    have:min i R.frs.length*(2*1000)<=1000*(2*1000):=Nat.mul_le_mul_right _ R4;omega
   have zc:=hid (rJ (l:=R.frs.map FrR.abs) (i:=i) (f:=f.abs) (by rw [List.getElem?_map,hf];rfl));clear xb xa hf xo ya hl hs yn yx;have qc:W.heap.size<=wr.heap.size:=xd.out.size;go_wp2_with (at_builtin;go_must (refine B0 _ rfl (.tmp 17) (.tmp 25) 84 rfl W.heap.size 92 xp _ 2 16 underlying84 HI.out HZ.out yp.out yl.out rfl R3 _ (B7 ((R.frs.map FrR.abs).take i)).length (A5 (B7 ((R.frs.map FrR.abs).take i))) rfl xh.out la f.loc.length lc (A5 f.loc) rfl (D3 _) zm.out (X1 _) Q5 R4 R4 ?_))
   intro v1 w1 hown1 hgrow1 _;have xm:=V7 xd.out xh.out hgrow1;have r3:=(xm.cell (p:=⟨cb,i*4+3,none⟩) xu).trans zg.out;have zn:cb < w1.heap.size:=L0a xu xm.size;have zo:W.heap.size<=w1.heap.size:=xm.size;have n4:=keep xm hm M4.out;have zh:mb < w1.heap.size:=L0a hm xm.size;have xv:=hid xm;have xs:=hid hown1;clear xm hown1 hgrow1 k2 k3;go_wp2_with (at_builtin;go_must (refine B0 _ rfl (.tmp 27) (.tmp 35) 84 rfl W.heap.size 92 xp _ 2 16 underlying84 HI.out HZ.out yp.out yl.out rfl R3 _ ((B7 ((R.frs.map FrR.abs).take i)).length+f.loc.length) (A5 (B7 ((R.frs.map FrR.abs).take i))++A5 f.loc) rfl xs.out sa f.stk.length sc (A5 f.stk) rfl (D3 _) (zl.out _ xv.out) (X1 _) Q5 R4 R4 ?_))
   intro v2 w2 hown2 hgrow2 _;have yd:=hid (V7 xv.out xs.out hgrow2);have ye:=hid hown2;clear hown2 hgrow2 r3 n4 m4;go_wp2_with fail;go_roundw
   case rel=>exact ⟨i+1,by omega,by go_num,by
    rw[zc.out,G9,G9,List.length_append,List.length_append,List.append_assoc];exact ye.out,yd.out⟩
   case measure=>simp [intOf];omega
  ·obtain rfl:i=R.frs.length:=by omega
   obtain⟨wB,zi⟩:∃wB,wB=wr:=⟨_,rfl⟩
   subst zi;have hq:(R.frs.map FrR.abs).take R.frs.length=R.frs.map FrR.abs:=by rw [<- List.length_map (f:=FrR.abs),List.take_length]
   rw[hq] at xh;have xo:=kI (R.frs.map FrR.abs) 1000 fun x hx=>by
    obtain⟨y,hy,rfl⟩:=List.mem_map.1 hx;exact xt.out.loc y hy
   rw[List.length_map] at xo;obtain⟨ra,rc,rfl,_,xr⟩:=S8 xh.out;have xz:Hid (Calls prog 127 #[.slice none 0 0,.slice ra (B7 (R.frs.map FrR.abs)).length rc] wB fun e w'=>∃v',e=.returned v'/\w'.ownsRow wB.heap.size 3 1 v' (C0 [] (B7 (R.frs.map FrR.abs))).length (X6 (C0 [] (B7 (R.frs.map FrR.abs))))/\Below wB.heap.size wB w'):=hid (zK (met:=[]) (L1c _) (World.ownsRow_nil _ _ _ _) xr (fun u hu h2=>(xx.out.vals u hu h2).1) Q8)
   have yb:=hid (yO (obs:=R.ths.map ThR.abs) (l:=B7 (R.frs.map FrR.abs)) xx.out.roots);have xg:=xd.out.size;clear xb xa hq xo xr;go_wp2_with (go_at_call 127;refine xz.out.mono ?_;rintro e w1 ⟨v1,rfl,yw,ys⟩)
   have xs:=hid yw;have xv:=hid ys;clear yw ys m4;go_wp2_with fail;go_loopw [5,6] (fun vl vi wr=>∃(i:Nat) (met:List Nat),i<=met.length/\vi=.int .i64 i/\wr.ownsRow wB.heap.size 3 1 vl met.length (X6 met)/\Below wB.heap.size wB wr/\cX (R.ths.map ThR.abs) i met/\A1 R.abs=H4 (R.ths.map ThR.abs) ((R.ths.map ThR.abs).length - i) i met) (fun _ vi _=>R.ths.length - (intOf vi).toNat)
   case atStart=>exact ⟨0,_,Nat.zero_le _,rfl,xs.out,xv.out,yb.out,uT R⟩
   case round =>
    obtain⟨i,met,hi,rfl,xb,xa,xl,xy⟩:=hrel;obtain⟨la,lc,rfl,xe⟩:=O0 xb;have yz:met.length<=R.ths.length:=by
     have:=K7 xl.nodup xl.lt;rw[List.length_map] at this;exact this
    have xk:=hid xb;have xc:=hid xa;have zp:=hid xl;have yy:=hid xy;by_cases hlt:i < met.length
    ·obtain ⟨j,hj⟩:∃j,met[i]?=some j:=⟨_,L1b hlt⟩
     have yj:=xl.lt j (L2a hj);rw[List.length_map] at yj;obtain⟨o,ho⟩:∃o,R.ths[j]?=some o:=⟨_,L1b yj⟩
     have yc:(R.ths.map ThR.abs)[j]?=some o.abs:=by rw [List.getElem?_map,ho];rfl
     have xj:=hid (yN (n:=(R.ths.map ThR.abs).length - (i+1)) hj yc);have yt:=hid (xl.next xx.out.within hj yc);have yq:(R.ths.map ThR.abs).length - i=(R.ths.map ThR.abs).length - (i+1)+1:=by rw [List.length_map];omega
     obtain⟨lb,lo,rfl,zv,xn⟩:=xe (by rw [List.length_map];omega);have x0:=xn i (j:Int) (by rw [List.getElem?_map,hj];rfl);obtain⟨tb,rfl,xw,_,_,xf⟩:=HT.out R4;have xi:Below W.heap.size W wr:=Below.trans xd.out (xa.mono xg);have t0:wr.cell? ⟨tb,j*3,none⟩=some (.int .u8 o.kind):=keep xi xw (xf j 0 o _ ho R3 rfl);have t1:wr.cell? ⟨tb,j*3+1,none⟩=some o.fv:=keep xi xw (xf j 1 o _ ho R3 rfl)
     have t2:wr.cell? ⟨tb,j*3+2,none⟩=some (.int .i64 o.slot):=keep xi xw (xf j 2 o _ ho R3 rfl);have m5:=keep xi hm M5.out;have zw:mb < wr.heap.size:=L0a hm xi.size;have zz:tb < wr.heap.size:=L0a xw xi.size;obtain⟨fa,fc,yh,_,yk⟩:=(zb.out j o ho).vals;rw[yh] at t1;have za:(j:Int) < (R.ths.length:Int):=by omega
     have qa:=xt.out.fld o (L2a ho);have HM:Hid (∀U,Below wr.heap.size wr U->Calls prog 127 #[.slice (some ⟨lb,lo,none⟩) met.length lc,.slice fa o.fl.length fc] U fun e w'=>∃v',e=.returned v'/\w'.ownsRow wB.heap.size 3 1 v' (C0 met o.fl).length (X6 (C0 met o.fl))/\Below wB.heap.size U w'):=hid fun U hU=>zK (Nat.le_trans xa.size hU.size) (H6 xb hU) ((yk.later (Below.trans xi (hU.mono xi.size))).mono xg) (fun u hu h2=>(xx.out.flds o (L2a ho) u hu h2).1) R4
     generalize hkd:o.kind=kd at *
     clear xb xa xl xy xe xn xf yk yh yc xi;by_cases h3:kd=3
     ·subst h3
      go_wp2_with fail;go_region
      go_wp2_with fail;go_roundw
      case rel =>
       have hX:∀{X:World},Below wr.heap.size wr X->X.ownsRow wB.heap.size 3 1 (.slice (some ⟨lb,lo,none⟩) met.length lc) met.length (X6 met)/\Below wB.heap.size wB X:=fun hX=>⟨H6 xk.out hX,xc.out.trans (hX.mono xc.out.size)⟩
       have hN:=yt.out;have hS:=xj.out;rw[if_pos (show o.abs.1=3 from hkd)] at hN hS;exact⟨i+1,met,by omega,by go_num,(hX P4).1,(hX P4).2,hN,by rw [yy.out,yq,hS]⟩
      case measure=>simp [intOf];omega
     ·have zt:(kd == 3)=false:=L2c.2 h3
      go_wp2_with fail;go_region
      go_wp2_with (go_at_call 127;refine (HM.out _ P4).mono ?_;rintro e w2 ⟨v2,rfl,ym,yi⟩)
      have ye:=hid ym;have yd:Hid (Below wB.heap.size wB w2):=hid (xc.out.trans ((Below.mono P4 xc.out.size).trans yi));clear ym yi;have zj:=(iP o.fl met).length_le;have hN:=hid yt.out
      have hS:=hid xj.out;rw[if_neg (show ¬o.abs.1=3 from fun e=>h3 (hkd.symm.trans e))] at hN hS;have xq:i+1<=(C0 met o.fl).length:=by omega
      go_wp2_with fail;go_roundw
      case rel=>exact ⟨i+1,C0 met o.fl,xq,by go_num,ye.out,yd.out,hN.out,by rw [yy.out,yq,hS.out];rfl⟩
      case measure=>simp [intOf];omega
    ·obtain rfl:i=met.length:=by omega
     have HE:Hid (A1 R.abs=met):=hid (xy.trans a1O);clear xb xa xl xy xe;go_wp2_with fail;go_ret;exact⟨_,rfl,by rw [HE.out];exact fA xk.out xg,Below.trans xd.out (xc.out.mono xg)⟩
end
section
variable {al:List Nat} {fb fc i j mb tb tc:Nat} {g:PgR} {l:List ThR} {o:ThR} {own:Own} {w w':World} {x:Int}
theorem A8.setFld {R:RfR} {o:ThR} {l:List Val} (h:A8 w own mb g R) (hj:R.ths[j]?=some o) (hfv:o.fv=.slice (some ⟨fb,0,none⟩) o.fl.length fc) (hofb:own fb=some (.fld j)) (hsize:w.heap.size=w'.heap.size) (hk:∀k,k≠fb->w'.heap[k]?=w.heap[k]?) (hlen:l.length=o.fl.length)
  (hrow:w'.ownsRow 0 92 2 (.slice (some ⟨fb,0,none⟩) o.fl.length fc) o.fl.length (A5 l)):A8 w' own mb g { R with ths:=R.ths.set j { o with fl:=l } }:=by
 have xc:=h.lt;have keep:∀t,t≠.fld j->∀k,own k=some t->w'.heap[k]?=w.heap[k]?/\own k=some t:=fun t ht k hk'=>⟨hk k (fun e=>by rw [e,hofb] at hk';exact ht (Option.some.inj hk').symm),hk'⟩
 have xb:=(keep .mach R5 mb h.me).1;have xa:∀k,own k=none->w'.heap[k]?=w.heap[k]?:=fun k hk'=>hk k (fun e=>by rw [e,hofb] at hk';cases hk')
 have xf:=(L1a.1 hj).1;have xd:(R.ths.set j { o with fl:=l }).flatMap ThR.cells=R.ths.flatMap ThR.cells:=by
  have e:=G6 (c:=ThR.cells) ThR.cells_len (l:=R.ths) (i:=j) (j:=0) (x:=o) (y:={ o with fl:=l }) (u:=.int .u8 o.kind) hj R4 rfl;rw[e];have hg:(R.ths.flatMap ThR.cells)[j*3+0]?=some (.int .u8 o.kind):=D6 ThR.cells_len hj R4;obtain⟨hl,xe⟩:=L1a.1 hg;rw[<- xe];exact List.set_getElem_self hl
 have kc:∀i x,w.cell? ⟨mb,i,none⟩=some x->w'.cell? ⟨mb,i,none⟩=some x:=fun i x hx=>by rw [L0b (w:=w) (a:=⟨mb,i,none⟩) xb];exact hx
 refine⟨fun k t hk'=>by rw [<- hsize];exact xc k t hk',h.me,kc _ _ h.c0,kc _ _ h.c1,kc _ _ h.c2,kc _ _ h.c3,kc _ _ h.c4,kc _ _ h.c5,kc _ _ h.c6,fun i=>by rw [L0c (w:=w) (a:=⟨mb,i,none⟩) xb];exact h.fz i,h.out.kept (keep _ R5),h.called.kept (keep _ R5),?_,fun i x hx=>(h.loc i x hx).kept (keep _ R5),fun i x hx=>(h.stk i x hx).kept (keep _ R5),fun i x hx=>?_,h.pg.held (Nat.le_of_eq hsize) fun k hb=>xa k (h.ro k hb),h.ro,h.ro0,h.dle,fun h0=>?_,fun b o e=>by rw [<- hsize];exact h.dro b o e⟩
 ·have:=h.things.kept (own':=own) (w':=w') (keep _ R5)
  show Row w' own .slots 100 3 R.hv (R.ths.set j { o with fl:=l }).length ((R.ths.set j { o with fl:=l }).flatMap ThR.cells);rw[xd,List.length_set];exact this
 ·by_cases e:i=j
  ·subst e
   obtain rfl:{ o with fl:=l }=x:=by rw [List.getElem?_set_self xf] at hx;exact Option.some.inj hx
   show Row w' own (.fld i) 92 2 o.fv l.length (A5 l);rw[hfv,hlen]
   exact⟨hrow,fun b hb=>by obtain rfl:fb=b:=by simpa [Value.ownBlock] using hb
                           exact hofb⟩
  ·rw [List.getElem?_set_ne (Ne.symm e)] at hx
   exact (h.fld i x hx).kept (keep _ (by simpa using e))
 ·obtain ⟨b,q,e,hb,hc⟩:=h.draws h0
  exact⟨b,q,e,by rw [<- hsize];exact hb,fun i x hx=>(L0b (w:=w) (a:=⟨b,q+i,none⟩) (xa b (h.dro b q e).2)).trans (hc i x hx)⟩
theorem A8.setTh {R:RfR} {p:ThR} (h:A8 w own mb g R) (hj:R.ths[j]?=some o) (hfv:p.fv=o.fv) (hfl:p.fl=o.fl) (htv:R.hv=.slice (some ⟨tb,0,none⟩) R.ths.length tc) (hotb:own tb=some .slots) (hsize:w.heap.size=w'.heap.size) (hk:∀k,k≠tb->w'.heap[k]?=w.heap[k]?)
  (hrow:w'.ownsRow 0 100 3 (.slice (some ⟨tb,0,none⟩) R.ths.length tc) R.ths.length ((R.ths.set j p).flatMap ThR.cells)):A8 w' own mb g { R with ths:=R.ths.set j p }:=by
 have xc:=h.lt;have keep:∀t,t≠.slots->∀k,own k=some t->w'.heap[k]?=w.heap[k]?/\own k=some t:=fun t ht k hk'=>⟨hk k (fun e=>by rw [e,hotb] at hk';exact ht (Option.some.inj hk').symm),hk'⟩
 have xb:=(keep .mach R5 mb h.me).1;have xa:∀k,own k=none->w'.heap[k]?=w.heap[k]?:=fun k hk'=>hk k (fun e=>by rw [e,hotb] at hk';cases hk')
 have xd:=(L1a.1 hj).1;have kc:∀i x,w.cell? ⟨mb,i,none⟩=some x->w'.cell? ⟨mb,i,none⟩=some x:=fun i x hx=>by rw [L0b (w:=w) (a:=⟨mb,i,none⟩) xb];exact hx
 refine⟨fun k t hk'=>by rw [<- hsize];exact xc k t hk',h.me,kc _ _ h.c0,kc _ _ h.c1,kc _ _ h.c2,kc _ _ h.c3,kc _ _ h.c4,kc _ _ h.c5,kc _ _ h.c6,fun i=>by rw [L0c (w:=w) (a:=⟨mb,i,none⟩) xb];exact h.fz i,h.out.kept (keep _ R5),h.called.kept (keep _ R5),?_,fun i x hx=>(h.loc i x hx).kept (keep _ R5),fun i x hx=>(h.stk i x hx).kept (keep _ R5),fun i x hx=>?_,h.pg.held (Nat.le_of_eq hsize) fun k hb=>xa k (h.ro k hb),h.ro,h.ro0,h.dle,fun h0=>?_,fun b o e=>by rw [<- hsize];exact h.dro b o e⟩
 ·show Row w' own .slots 100 3 R.hv (R.ths.set j p).length ((R.ths.set j p).flatMap ThR.cells)
  rw[List.length_set,htv]
  exact⟨hrow,fun b hb=>by obtain rfl:tb=b:=by simpa [Value.ownBlock] using hb
                          exact hotb⟩
 ·by_cases e:i=j
  ·subst e
   obtain rfl:p=x:=by rw [List.getElem?_set_self xd] at hx;exact Option.some.inj hx
   rw[hfv,hfl];exact (h.fld i o hj).kept (keep _ R5)
  ·rw [List.getElem?_set_ne (Ne.symm e)] at hx
   exact (h.fld i x hx).kept (keep _ R5)
 ·obtain ⟨b,q,e,hb,hc⟩:=h.draws h0
  exact⟨b,q,e,by rw [<- hsize];exact hb,fun i x hx=>(L0b (w:=w) (a:=⟨b,q+i,none⟩) (xa b (h.dro b q e).2)).trans (hc i x hx)⟩
theorem A8.putFld {R:RfR} {o:ThR} {x y:Val} (h:A8 w own mb g R) (hj:R.ths[j]?=some o) (hi:o.fl[i]?=some x) (hfv:o.fv=.slice (some ⟨fb,0,none⟩) o.fl.length fc) (hofb:own fb=some (.fld j)) :
  A8 ((w.setCell ⟨fb,i*2,none⟩ (.int .u8 y.1)).setCell ⟨fb,i*2+1,none⟩ (.int .i64 y.2)) own mb g { R with ths:=R.ths.set j { o with fl:=o.fl.set i y } } /\
   A2 own w own ((w.setCell ⟨fb,i*2,none⟩ (.int .u8 y.1)).setCell ⟨fb,i*2+1,none⟩ (.int .i64 y.2)):=by
 have hl:=h.fld j o hj;rw[hfv] at hl;have hr:=(World.ownsRow.stored (World.ownsRow.stored hl.1 (i*2) (.int .u8 y.1)).1 (i*2+1) (.int .i64 y.2)).1;rw[<- fF hi] at hr;have xa:∀k,k≠fb->((w.setCell ⟨fb,i*2,none⟩ (.int .u8 y.1)).setCell ⟨fb,i*2+1,none⟩ (.int .i64 y.2)).heap[k]?=w.heap[k]?:=fun k hk=>by
  rw[heap_setCell_other _ _ _ _ hk,heap_setCell_other _ _ _ _ hk]
 exact⟨h.setFld hj hfv hofb R5 xa R5 hr,⟨rfl,rfl,rfl,by simp,fun k hk hno=>xa k (fun e=>by rw [e,hofb] at hno;cases hno),fun _ _=>rfl⟩⟩
theorem A8.putSlot {R:RfR} {o:ThR} (h:A8 w own mb g R) (hj:R.ths[j]?=some o) (htv:R.hv=.slice (some ⟨tb,0,none⟩) R.ths.length tc) (hotb:own tb=some .slots) :
  A8 (w.setCell ⟨tb,j*3+2,none⟩ (.int .i64 x)) own mb g { R with ths:=R.ths.set j { o with slot:=x } }/\A2 own w own (w.setCell ⟨tb,j*3+2,none⟩ (.int .i64 x)):=by
 have hl:=h.things;rw[htv] at hl;have hr:=(World.ownsRow.stored hl.1 (j*3+2) (.int .i64 x)).1;rw[<- G6 (c:=ThR.cells) ThR.cells_len (l:=R.ths) (i:=j) (j:=2) (x:=o) (y:={ o with slot:=x }) (u:=.int .i64 x) hj R4 rfl] at hr;have xa:∀k,k≠tb->(w.setCell ⟨tb,j*3+2,none⟩ (.int .i64 x)).heap[k]?=w.heap[k]?:=fun k hk=>heap_setCell_other _ _ _ _ hk
 exact⟨h.setTh hj rfl rfl htv hotb R5 xa hr,⟨rfl,rfl,rfl,by simp,fun k hk hno=>xa k (fun e=>by rw [e,hotb] at hno;cases hno),fun _ _=>rfl⟩⟩
def X4 (al:List Nat) (i:Nat) (o:ThR):ThR:={ o with fl:=(H9 al i o.abs).2,slot:=if i∈al then o.slot else -1 }
def O7 (al:List Nat) (n:Nat) (l:List ThR):List ThR:=l.mapIdx fun i o=>if i < n then X4 al i o else o
theorem Y7 (al:List Nat) (n:Nat) (l:List ThR) (i:Nat):(O7 al n l)[i]?=(l[i]?).map fun o=>if i < n then X4 al i o else o:=by simp [O7,List.getElem?_mapIdx]
theorem cJ (al:List Nat) (n:Nat) (l:List ThR):(O7 al n l).length=l.length:=by simp [O7]
theorem vG (al:List Nat) (l:List ThR):O7 al 0 l=l:=by
 refine List.ext_getElem? fun i=>?_
 rw[Y7];simp
theorem vF (h:l[i]?=some o):O7 al (i+1) l=(O7 al i l).set i (X4 al i o):=by
 refine List.ext_getElem? fun k=>?_
 have xa:=(L1a.1 h).1;by_cases e:i=k
 ·subst e
  rw[List.getElem?_set_self (by rw [cJ];exact xa),Y7,h,Option.map_some,if_pos R4]
 ·rw [List.getElem?_set_ne e,Y7,Y7]
  have:(k < i+1)=(k < i):=propext R4;simp only[this]
theorem a2j (h:l[i]?=some o):(O7 al i l)[i]?=some o:=by
 rw[Y7,h,Option.map_some,if_neg R4]
theorem a0f (al:List Nat) (l:List ThR):(O7 al l.length l).map ThR.abs=R9 al (l.map ThR.abs)/\(O7 al l.length l).map ThR.slot=N3 al (l.map ThR.slot):=by
 constructor
 ·refine List.ext_getElem? fun i=>?_
  rw[List.getElem?_map,Y7,V9,List.getElem?_map]
  cases h:l[i]? with
  | none=>rfl
  | some o =>
   rw[Option.map_some,Option.map_some,Option.map_some,Option.map_some,if_pos (L1a.1 h).1];refine congrArg some (Prod.ext ?_ rfl);exact (U1 al i o.abs).symm
 ·refine List.ext_getElem? fun i=>?_
  rw[List.getElem?_map,Y7,Z6,List.getElem?_map]
  cases h:l[i]? with
  | none=>rfl
  | some o =>
   rw[Option.map_some,Option.map_some,Option.map_some,Option.map_some,if_pos (L1a.1 h).1];rfl
def eF (sl:List Int) (al:List Nat) (n:Nat):Nat:=((List.range n).filter fun i=>decide (i∉al) && ((sl[i]?).map fun x=>decide (0<=x)).getD false).length
theorem vX (sl:List Int) (al:List Nat):eF sl al sl.length=vY sl al:=rfl
theorem sR {sl:List Int} (h:sl[i]?=some x):eF sl al (i+1)=eF sl al i+if i∉al/\0<=x then 1 else 0:=by
 unfold eF;rw[List.range_succ,List.filter_append,List.length_append,List.filter_cons,h];by_cases h1:i∈al
 ·simp [h1]
 ·by_cases h2:0<=x <;> simp [h1,h2]
theorem a0x (sl:List Int) (al:List Nat) (n:Nat):eF sl al n<=n:=by
 have:=List.length_filter_le (fun i=>decide (i∉al) && ((sl[i]?).map fun x=>decide (0<=x)).getD false) (List.range n);rw[List.length_range] at this;exact this
end
section
variable {B e i n sz:Nat} {al:List Nat} {o:ThR} {own:Own} {v:Value} {w:World} {xs:List Value}
theorem eX (h:¬(i∈al/\o.kind=3/\(o.fl.headD (0,0)).1=2/\(o.fl.headD (0,0)).2.toNat∉al)):(H9 al i o.abs).2=o.fl:=by
 unfold H9;rw[if_neg (show ¬(i∈al/\o.abs.1=3/\(o.abs.2.headD (0,0)).1=2/\(o.abs.2.headD (0,0)).2.toNat∉al) from h)];rfl
theorem vQ (h:i∈al/\o.kind=3/\(o.fl.headD (0,0)).1=2/\(o.fl.headD (0,0)).2.toNat∉al):(H9 al i o.abs).2=o.fl.set 0 (0,0):=by
 unfold H9;rw[if_pos (show i∈al/\o.abs.1=3/\(o.abs.2.headD (0,0)).1=2/\(o.abs.2.headD (0,0)).2.toNat∉al from h)];rfl
theorem qL {own':Own} {U:World} (h:w.ownsRow B e sz v n xs) (ht:A2 own w own' U) (ho:∀k,B<=k->own k=none):U.ownsRow B e sz v n xs:=by
 refine⟨h.1,?_⟩;rcases h.2 with h2 | ⟨g,cap,cur,q1,q2,q3,q4⟩
 ·exact Or.inl h2
 ·exact Or.inr ⟨g,cap,cur,q1,q2,(ht.block g (L2b.1 q3).1 (ho g q2)).trans q3,q4⟩
theorem aA {α:Type} {l:List α} {o:α} (h:l[i]?=some o):l.set i o=l:=by
 obtain⟨hl,e⟩:=L1a.1 h;rw[<- e];exact List.set_getElem_self hl
theorem qY {b:Nat} (h:w.ownsRow B e sz v n xs) (hv:v.ownBlock=some b) (j:Nat):w.frozen? ⟨b,j,none⟩=false:=by
 rcases h.2 with ⟨rfl,_⟩ | ⟨g,xb,xa,rfl,_,hg,_⟩
 ·cases hv
 ·obtain rfl:g=b:=by simpa [Value.ownBlock] using hv
  simp[World.frozen?,hg]
structure a0a (R:RfR):Prop where
 slot:∀o,o∈R.ths -> -1<=o.slot
 weak:∀o,o∈R.ths->o.kind=3->o.fl.length=1
theorem qO {W:World} {mb:Nat} {g:PgR} {R:RfR} (h:A8 W own mb g R) (hb:fI R) (hr:cI R) (hs:a0a R) :
  Calls prog 65 #[.pointer (some ⟨mb,0,none⟩)] W fun e w'=>e=.returned (.int .i64 (vY (R.ths.map ThR.slot) (A1 R.abs):Int))/\A8 w' own mb g { R with ths:=O7 (A1 R.abs) R.ths.length R.ths }/\A2 own W own w':=by
 have ya:=hid (cP h hb hr);have HA:=hid h;have yq:=hid hr;have yi:=hid hs;have yu:=hid hb;have hm:=h.lt _ _ h.me;have yl:Hid (∀k,W.heap.size<=k->own k=none):=hid fun k hk=>by
  cases e:own k with
  | none=>rfl
  | some t=>have:=h.lt k t e;omega
 have zc:=hb.ths;have ze:(A1 R.abs).length<=R.ths.length:=by
  have hq:=(W8 hr.within hr.roots);have:=K7 hq.nodup hq.lt;rw[show R.abs.obs.length=R.ths.length from List.length_map _] at this;exact this
 generalize hAL:A1 R.abs=al at *
 clear h hb hr hs hAL;go_enter func65,ntmps65;go_wp2_with (go_at_call 86;refine ya.out.mono ?_;rintro e w1 ⟨v1,rfl,yh,yb⟩)
 have ye:=hid yh;have yp:=hid yb;have yo:=hid (HA.out.same yb);clear yh yb;obtain⟨la,lc,rfl,_⟩:=O0 ye.out;go_wp2_with fail;go_loopw [4,5] (fun vf vi wr=>∃i:Nat,i<=R.ths.length/\vi=.int .i64 i/\vf=.int .i64 (eF (R.ths.map ThR.slot) al i:Int)/\A8 wr own mb g { R with ths:=O7 al i R.ths }/\A2 own w1 own wr) (fun _ vi _=>R.ths.length - (intOf vi).toNat)
 case atStart=>exact ⟨0,Nat.zero_le _,rfl,rfl,by rw [vG];exact yo.out,A2.refl _ _⟩
 case round =>
  obtain⟨i,hi,rfl,rfl,xd,xh⟩:=hrel;have yx:=xd.lt _ _ xd.me;have xr:=hid xd;have xn:=hid xh;have zb:=a0x (R.ths.map ThR.slot) al i;obtain⟨ta,yt,xv,_,xc⟩:=Row.cells ThR.cells_len xd.things;have m5:=xd.c5;rw[xv] at m5;rw[show ({ R with ths:=O7 al i R.ths } : RfR).ths.length=R.ths.length from cJ _ _ _] at m5;have xb:=qL ye.out xh yl.out;obtain⟨yz,yw,e1,xa⟩:=O0 xb
  cases e1;have xo:Hid (∀j:Nat,Calls prog 103 #[.slice la al.length lc,.int .i64 (j:Int)] wr fun e w'=>e=.returned (.int .i64 (D9 (al.map fun n:Nat=>(n:Int)) 0 (j:Int)))/\w'=wr):=hid fun j=>by
   have:=fB la lc (al.map fun n:Nat=>(n:Int)) (j:Int) xa (by rw [List.length_map];omega);rw[List.length_map] at this;exact this
  by_cases hlt:i < R.ths.length
  ·obtain ⟨o,ho⟩:∃o,R.ths[i]?=some o:=⟨_,L1b hlt⟩
   have xe:({ R with ths:=O7 al i R.ths } : RfR).ths[i]?=some o:=a2j ho;have xu:=hid xe;have xx:=hid (vF (al:=al) ho);have xw:=hid (sR (sl:=R.ths.map ThR.slot) (al:=al) (i:=i) (x:=o.slot) (by rw [List.getElem?_map,ho];rfl));obtain⟨tb,rfl,yy,xy,yn,xg⟩:=xc (by rw [show ({ R with ths:=O7 al i R.ths } : RfR).ths.length=R.ths.length from cJ _ _ _];omega);have t0:wr.cell? ⟨tb,i*3,none⟩=some (.int .u8 o.kind):=xg i 0 o _ xe R3 rfl
   have t1:wr.cell? ⟨tb,i*3+1,none⟩=some o.fv:=xg i 1 o _ xe R3 rfl;have t2:wr.cell? ⟨tb,i*3+2,none⟩=some (.int .i64 o.slot):=xg i 2 o _ xe R3 rfl;have tz:=yn (i*3+2);have za:(i:Int) < (R.ths.length:Int):=by omega
   have xk:=cS (l:=al) (j:=i);obtain⟨fa,fc,xf,_,xm⟩:=(xd.fld i o xe).vals;have yj:({ R with ths:=O7 al i R.ths } : RfR).ths.length=R.ths.length:=cJ _ _ _;have xp:Hid (A8 (wr.setCell ⟨tb,i*3+2,none⟩ (.int .i64 (-1))) own mb g { R with ths:=(O7 al i R.ths).set i { o with slot := -1 } }/\A2 own wr own (wr.setCell ⟨tb,i*3+2,none⟩ (.int .i64 (-1)))):=hid (xd.putSlot xe xv xy)
   have ys:=yi.out.slot o (L2a ho);by_cases hin:i∈al
   ·have hq:¬D9 (al.map fun n:Nat=>(n:Int)) 0 (i:Int) < 0:=fun cc=>xk.1 cc hin
    have yv:0<=D9 (al.map fun n:Nat=>(n:Int)) 0 (i:Int):=by omega
    have xi:Hid (eF (R.ths.map ThR.slot) al (i+1)=eF (R.ths.map ThR.slot) al i):=hid (by rw [xw.out,if_neg (fun c=>c.1 hin)];rfl);have xs:Hid (∀p:ThR,X4 al i o=p->(O7 al i R.ths).set i p=O7 al (i+1) R.ths):=hid fun p hp=>by rw [xx.out,hp]
    by_cases hk3:o.kind=3
    ·have xq:=yi.out.weak o (L2a ho) hk3
     obtain⟨x,hx⟩:∃x,o.fl=[x]:=List.length_eq_one_iff.1 xq
     obtain⟨fb,rfl,zd,xj⟩:=xm R4;obtain⟨y0,y1⟩:=xj 0 x (by rw [hx];rfl);rw[Nat.zero_mul] at y0 y1;rw[xf,xq] at t1;rw[hk3] at t0;have yc:own fb=some (.fld i):=(xd.fld i o xe).2 fb (by rw [xf];rfl);have xz:Hid (A8 ((wr.setCell ⟨fb,0,none⟩ (.int .u8 0)).setCell ⟨fb,0+1,none⟩ (.int .i64 0)) own mb g { R with ths:=(O7 al i R.ths).set i { o with fl:=o.fl.set 0 (0,0) } }/\A2 own wr own ((wr.setCell ⟨fb,0,none⟩ (.int .u8 0)).setCell ⟨fb,0+1,none⟩ (.int .i64 0))):=hid (xd.putFld (i:=0) (x:=x) (y:=(0,0)) xe (by rw [hx];rfl) xf yc)
     have yd:∀q,wr.frozen? ⟨fb,q,none⟩=false:=fun q=>qY (xd.fld i o xe).1 (by rw [xf];rfl) q
     have z0:=yd 0;have z1:=yd 1;by_cases hx2:x.1=2
     ·obtain ⟨x0,xl⟩:=yq.out.flds o (L2a ho) x (by rw [hx];simp) hx2
      obtain⟨j,hj⟩:=Int.eq_ofNat_of_zero_le x0;rw[hx2] at y0;rw[hj] at y1;have yg:x.2.toNat=j:=by rw [hj];rfl
      have xt:=cS (l:=al) (j:=j);by_cases hja:j∈al
      ·have ym:¬D9 (al.map fun n:Nat=>(n:Int)) 0 (j:Int) < 0:=fun cc=>xt.1 cc hja
       have HC:Hid (X4 al i o=o):=hid (by
        unfold X4;rw[eX (fun c=>c.2.2.2 (by rw [hx];show x.2.toNat∈al;rw [yg];exact hja)),if_pos hin])
       clear xd xh xc xb xa xg xm xj xf xe ho xk xt xp;go_wp2_with (go_at_call 103;refine (xo.out _).mono ?_;rintro e w' ⟨rfl,hw⟩;rw [hw];clear hw w')
       go_roundw
       case rel=>exact ⟨i+1,by omega,by go_num,by rw [xi.out],by
        rw[<- xs.out _ HC.out,aA xu.out];exact xr.out,xn.out⟩
       case measure=>simp [intOf];omega
      ·have ym:D9 (al.map fun n:Nat=>(n:Int)) 0 (j:Int) < 0:=xt.2 hja
       have HC:Hid (X4 al i o={ o with fl:=o.fl.set 0 (0,0) }):=hid (by
        unfold X4;rw[vQ ⟨hin,hk3,by rw [hx];exact hx2,by rw [hx];show x.2.toNat∉al;rw [yg];exact hja⟩,if_pos hin])
       clear xd xh xc xb xa xg xm xj xf xe ho xk xt xp;go_wp2_with (go_at_call 103;refine (xo.out _).mono ?_;rintro e w' ⟨rfl,hw⟩;rw [hw];clear hw w')
       go_roundw
       case rel=>exact ⟨i+1,by omega,by go_num,by rw [xi.out],by
        rw[<- xs.out _ HC.out];exact xz.out.1,xn.out.trans xz.out.2⟩
       case measure=>simp [intOf];omega
     ·have yk:(x.1 == 2)=false:=L2c.2 hx2
      have HC:Hid (X4 al i o=o):=hid (by
       unfold X4;rw[eX (fun c=>hx2 (by have:=c.2.2.1;rw [hx] at this;exact this)),if_pos hin])
      clear xd xh xc xb xa xg xm xj xf xe ho xk xp xz;go_wp2_with (go_at_call 103;refine (xo.out _).mono ?_;rintro e w' ⟨rfl,hw⟩;rw [hw];clear hw w')
      go_roundw
      case rel=>exact ⟨i+1,by omega,by go_num,by rw [xi.out],by
       rw[<- xs.out _ HC.out,aA xu.out];exact xr.out,xn.out⟩
      case measure=>simp [intOf];omega
    ·have yr:(o.kind == 3)=false:=L2c.2 hk3
     have HC:Hid (X4 al i o=o):=hid (by
      unfold X4;rw[eX (fun c=>hk3 c.2.1),if_pos hin])
     clear xd xh xc xb xa xg xm xf xe ho xk xp;go_wp2_with (go_at_call 103;refine (xo.out _).mono ?_;rintro e w' ⟨rfl,hw⟩;rw [hw];clear hw w')
     go_roundw
     case rel=>exact ⟨i+1,by omega,by go_num,by rw [xi.out],by
      rw[<- xs.out _ HC.out,aA xu.out];exact xr.out,xn.out⟩
     case measure=>simp [intOf];omega
   ·have hq:D9 (al.map fun n:Nat=>(n:Int)) 0 (i:Int) < 0:=xk.2 hin
    have HC:Hid (X4 al i o={ o with slot := -1 }):=hid (by
     unfold X4;rw[eX (fun c=>hin c.1),if_neg hin])
    by_cases hs0:0<=o.slot
    ·clear xd xh xc xb xa xg xm xf xe ho xk t0 t1
     go_wp2_with (go_at_call 103;refine (xo.out i).mono ?_;rintro e w' ⟨rfl,hw⟩;rw [hw];clear hw w')
     go_roundw
     case rel=>exact ⟨i+1,by omega,by go_num,by rw [xw.out,if_pos ⟨hin,hs0⟩];go_num,by rw [xx.out,HC.out];exact xp.out.1,xn.out.trans xp.out.2⟩
     case measure=>simp [intOf];omega
    ·have yf:o.slot = -1:=by omega
     have HE:Hid (({ o with slot := -1 } : ThR)=o):=hid (by rw [<- yf]);rw[yf] at t2;clear xd xh xc xb xa xg xm xf xe ho xk t0 t1;go_wp2_with (go_at_call 103;refine (xo.out i).mono ?_;rintro e w' ⟨rfl,hw⟩;rw [hw];clear hw w')
     go_roundw
     case rel=>exact ⟨i+1,by omega,by go_num,by rw [xw.out,if_neg (fun c=>by have:=c.2;omega)];rfl,by
      rw[xx.out,HC.out,HE.out,aA xu.out];exact xr.out,xn.out⟩
     case measure=>simp [intOf];omega
  ·obtain rfl:i=R.ths.length:=by omega
   clear xd xh xc xb xa xv;go_wp2_with fail;go_ret;exact⟨by rw [<- vX,List.length_map];rfl,xr.out,(A2.of_below yp.out).trans xn.out⟩
end
section
variable {B mb:Nat} {R:RfR} {g:PgR} {own own':Own} {w w':World}
theorem A8.edit {R':RfR} (h:A8 w own mb g R) (hsize:w.heap.size<=w'.heap.size) (hlt:∀k t,own' k=some t->k < w'.heap.size) (hme:own' mb=some .mach)
  (hno:∀k,own k=none->k < w.heap.size->(g.blk k\/k=0\/∃o,R.da=some ⟨k,o,none⟩)->own' k=none/\w'.heap[k]?=w.heap[k]?)
  (c0:w'.cell? ⟨mb,0,none⟩=w.cell? ⟨mb,0,none⟩) (c1:w'.cell? ⟨mb,1,none⟩=some (.int .i64 (R'.cap:Int))) (c2:w'.cell? ⟨mb,2,none⟩=some (.int .i64 R'.st)) (c3:w'.cell? ⟨mb,3,none⟩=some R'.ov) (c4:w'.cell? ⟨mb,4,none⟩=some R'.cv) (c5:w'.cell? ⟨mb,5,none⟩=some R'.hv) (c6:w'.cell? ⟨mb,6,none⟩=w.cell? ⟨mb,6,none⟩) (fz:∀j,w'.frozen? ⟨mb,j,none⟩=false)
  (out:Row w' own' .out 3 1 R'.ov R'.out.length (R'.out.map fun n=>.int .i64 n)) (called:Row w' own' .called 86 4 R'.cv R'.frs.length (R'.frs.flatMap FrR.cells)) (things:Row w' own' .slots 100 3 R'.hv R'.ths.length (R'.ths.flatMap ThR.cells))
  (loc:∀i f,R'.frs[i]?=some f->Row w' own' (.loc i) 92 2 f.lv f.loc.length (A5 f.loc)) (stk:∀i f,R'.frs[i]?=some f->Row w' own' (.stk i) 92 2 f.sv f.stk.length (A5 f.stk)) (fld:∀j o,R'.ths[j]?=some o->Row w' own' (.fld j) 92 2 o.fv o.fl.length (A5 o.fl))
  (hdo:∀b o,R.da=some ⟨b,o,none⟩->own' b=none) (hda:R'.da=R.da) (hdc:R'.dc=R.dc) (hdr:R'.dr=R.dr):A8 w' own' mb g R':=by
 have hz:0 < w.heap.size:=Nat.lt_of_le_of_lt (Nat.zero_le _) (h.lt _ _ h.me);refine⟨hlt,hme,c0.trans h.c0,c1,c2,c3,c4,c5,by rw [c6,hda,hdc,hdr];exact h.c6,fz,out,called,things,loc,stk,fld,h.pg.held hsize fun k hk=>(hno k (h.ro k hk) (h.pg.blk_lt hk) (Or.inl hk)).2,fun k hk=>(hno k (h.ro k hk) (h.pg.blk_lt hk) (Or.inl hk)).1,(hno 0 h.ro0 hz (Or.inr (Or.inl rfl))).1,by rw [hdc,hdr];exact h.dle,fun h0=>?_,fun b o e=>?_⟩
 ·rw [hdr] at h0 ⊢
  rw[hda];obtain⟨b,q,e,hb,hc⟩:=h.draws h0;exact⟨b,q,e,L0a hb hsize,fun i x hx=>(L0b (w:=w) (a:=⟨b,q+i,none⟩) (hno b (h.dro b q e).2 hb (Or.inr (Or.inr ⟨q,e⟩))).2).trans (hc i x hx)⟩
 ·rw [hda] at e
  exact⟨L0a (h.dro b o e).1 hsize,hdo b o e⟩
structure aO (B:Nat) (own:Own) (w:World) (own':Own) (w':World):Prop where
 os:w'.os=w.os
 tape:w'.tape=w.tape
 output:w'.output=w.output
 size:w.heap.size<=w'.heap.size
 block:∀k,k < B->own k=none->w'.heap[k]?=w.heap[k]?
 old:∀k,k < B->own' k=own k
theorem aO.trans {own'':Own} {w'':World} (h:aO B own w own' w') (k:aO B own' w' own'' w''):aO B own w own'' w'' :=
 ⟨k.os.trans h.os,k.tape.trans h.tape,k.output.trans h.output,Nat.le_trans h.size k.size,
  fun i hi hn=>(k.block i hi (by rw [h.old i hi];exact hn)).trans (h.block i hi hn),
  fun i hi=>(k.old i hi).trans (h.old i hi)⟩
theorem A2.touB (h:A2 own w own' w') {B:Nat} (hB:B<=w.heap.size):aO B own w own' w' :=
 ⟨h.os,h.tape,h.output,h.size,fun k hk hn=>h.block k (L0a hk hB) hn,fun k hk=>h.old k (L0a hk hB)⟩
theorem aO.touched (h:aO w.heap.size own w own' w'):A2 own w own' w':=⟨h.os,h.tape,h.output,h.size,h.block,h.old⟩
theorem aO.of_below (h:Below B w w'):aO B own w own w':=⟨h.os,h.tape,h.output,h.size,fun k hk _=>h.block k hk,fun _ _=>rfl⟩
theorem A8.pushTh {R:RfR} {p:ThR} {hv:Value} (h:A8 w own mb g R) (hsize:w.heap.size<=w'.heap.size)
  (hk:∀k,k < w.heap.size->k≠mb->own k≠some .slots->w'.heap[k]?=w.heap[k]?)
  (hc:∀j,j≠5->w'.cell? ⟨mb,j,none⟩=w.cell? ⟨mb,j,none⟩) (hc5:w'.cell? ⟨mb,5,none⟩=some hv) (hfz:∀j,w'.frozen? ⟨mb,j,none⟩=false)
  (hrow:w'.ownsRow 0 100 3 hv (R.ths.length+1) ((R.ths++[p]).flatMap ThR.cells)) (hon:F4 w own hv .slots)
  (hfld:w.ownsRow 0 92 2 p.fv p.fl.length (A5 p.fl)) (hnb:M9 own g p.fv) (hnd:∀b o,R.da=some ⟨b,o,none⟩->p.fv.ownBlock≠some b) :
  A8 w' ((own.upd p.fv.ownBlock (.fld R.ths.length)).upd hv.ownBlock .slots) mb g { R with hv:=hv,ths:=R.ths++[p] }/\∀k,k < w.heap.size->p.fv.ownBlock≠some k->((own.upd p.fv.ownBlock (.fld R.ths.length)).upd hv.ownBlock .slots) k=own k:=by
 have xb:=h.lt;have xa:∀k t,own k=some t->((own.upd p.fv.ownBlock (.fld R.ths.length)).upd hv.ownBlock .slots) k=some t:=fun k t hkt=>by
  unfold Own.upd;by_cases e1:hv.ownBlock=some k
  ·rw [if_pos e1]
   rcases hon k e1 with e | e
   ·rw [e] at hkt;exact hkt
   ·have:=xb k t hkt;omega
  ·rw [if_neg e1,if_neg (fun e=>by have:=(hnb k e).1;rw [hkt] at this;cases this)]
   exact hkt
 have xd:∀k,own k=none->k < w.heap.size->p.fv.ownBlock≠some k->((own.upd p.fv.ownBlock (.fld R.ths.length)).upd hv.ownBlock .slots) k=none:=fun k hkn hks hkp=>by
  unfold Own.upd;rw[if_neg (fun e=>by
   rcases hon k e with e | e
   ·rw [hkn] at e;cases e
   ·omega),if_neg hkp]
  exact hkn
 have keep:∀t,t≠.mach->t≠.slots->∀k,own k=some t->w'.heap[k]?=w.heap[k]?/\((own.upd p.fv.ownBlock (.fld R.ths.length)).upd hv.ownBlock .slots) k=some t:=fun t h1 h2 k hk' =>
  ⟨hk k (xb k t hk') (fun e=>by rw [e,h.me] at hk';exact h1 (Option.some.inj hk').symm) (by rw [hk'];exact fun e=>h2 (Option.some.inj e)),xa k t hk'⟩
 have xe:∀k,k < w.heap.size->own k=none->w'.heap[k]?=w.heap[k]?:=fun k hk1 hk2=>hk k hk1 (fun e=>by rw [e,h.me] at hk2;cases hk2) (by rw [hk2];simp)
 refine⟨h.edit (R':={ R with hv:=hv,ths:=R.ths++[p] }) hsize (fun k t hk'=>?_) (xa _ _ h.me) (fun k hn hks hor=>⟨xd k hn hks ?_,xe k hks hn⟩) (hc 0 R3) ((hc 1 R3).trans h.c1) ((hc 2 R3).trans h.c2) ((hc 3 R3).trans h.c3) ((hc 4 R3).trans h.c4) hc5 (hc 6 R3) hfz
  (h.out.kept (keep _ R5 R5)) (h.called.kept (keep _ R5 R5)) ⟨by rw [show ({ R with hv:=hv,ths:=R.ths++[p] } : RfR).ths.length=R.ths.length+1 by simp];exact hrow,fun b hb=>by unfold Own.upd;rw [if_pos hb]⟩ (fun i x hx=>(h.loc i x hx).kept (keep _ R5 R5)) (fun i x hx=>(h.stk i x hx).kept (keep _ R5 R5)) (fun i x hx=>?_) (fun b o e=>xd b (h.dro b o e).2 (h.dro b o e).1 (hnd b o e)) rfl rfl rfl,fun k hks hkp=>?_⟩
 ·unfold Own.upd at hk'
  split at hk'
  ·rename_i e;exact (hrow.lt k e).2
  ·split at hk'
   ·rename_i e;exact L0a (hfld.lt k e).2 hsize
   ·exact L0a (xb k t hk') hsize
 ·rcases hor with hb | rfl | ⟨o,e⟩
  ·exact fun e=>(hnb k e).2.1 k hb rfl
  ·exact fun e=>(hnb 0 e).2.2 rfl
  ·exact hnd k o e
 ·by_cases e:i=R.ths.length
  ·subst e
   obtain rfl:p=x:=by
    have:(R.ths++[p])[R.ths.length]?=some x:=hx;simpa using this
   refine⟨A7 hfld fun b hb=>xe b (hfld.lt b hb).2 (hnb b hb).1,fun b hb=>?_⟩;unfold Own.upd;rw[if_neg (fun e1=>by
    rcases hon b e1 with e2 | e2
    ·have:=(hnb b hb).1;rw [e2] at this;cases this
    ·have:=(hfld.lt b hb).2;omega),if_pos hb]
  ·have xc:(R.ths++[p])[i]?=some x:=hx
   have hi:i < R.ths.length:=by
    have:=(L1a.1 xc).1;simp at this;omega
   rw[List.getElem?_append_left hi] at xc;exact (h.fld i x xc).kept (keep _ R5 R5)
 ·cases e:own k with
  | none=>exact xd k e hks hkp
  | some t=>exact xa k t e
end
end Go.Proofs.YtbkmgoffiigdbaaGreatDoor
