import Derived.Test.YtbkmgoffiigdbaaGreatDoorVCa
namespace Go.Proofs.YtbkmgoffiigdbaaGreatDoor
open Go.RowKit Go.Sort Go.Proofs.Tryz
set_option maxHeartbeats 4000000
set_option maxRecDepth 100000
theorem a3l {w:World} (ht:Tab w) {sa:Option Addr} {sc kb kc:Nat} {l:List StR} {ks:List Int} (hl:a2a w sa l) (hn:l.length<=900000) (hks:ks.length<=100) (hkb:kb < w.heap.size) (hk:∀(j:Nat) (x:Int),ks[j]?=some x->w.cell? ⟨kb,j,none⟩=some (J x))
  (hs:∀s,s∈l->s.k∈ks->∀P U Y N M,N<=9999990000->M<=900000000->Lw ⟨w,fun _=>True⟩ P U w.heap.size Y N M->Calls prog 11 #[zB w.heap.size,.agg s.cells.toArray] U fun e w'=>e=.returned (.bool true)/\∃P2 Y2,Lw ⟨w,fun _=>True⟩ P2 w' w.heap.size Y2 (N+10000) (M+100)) :
  Calls prog 8 #[.slice sa l.length sc,.slice (zA kb) ks.length kc] w fun e w'=>e=.returned (.bool true)/\L0d w w':=by
 have HT:=hid ht;have HL:=hid hl;have HS:=hid hs;have HK:=hid hk;clear hl hs hk ht;go_enter func8,ntmps8;have xm:∀j,j<=5->(w.alloc (Obj.cells #[zD,zD,zD,zD,zD,zD] 37)).cell? ⟨w.heap.size,j,none⟩=some zD:=fun j hj=>by
  have:j=0\/j=1\/j=2\/j=3\/j=4\/j=5:=by omega
  rcases this with rfl | rfl | rfl | rfl | rfl | rfl <;> go_simp
 have xv:Hid (Lw ⟨w,fun _=>True⟩ (fun i=>if i=(0,0) then aS w.heap.size a3k else I0.none) (w.alloc (Obj.cells #[zD,zD,zD,zD,zD,zD] 37)) w.heap.size a3k 0 0):=hid (a5q (L3a (L3b _ _) (L1c _) _) R6 HT.out.1 xm (fun j=>by go_simp));clear xm;go_wp2_with fail;generalize (w.alloc (Obj.cells #[zD,zD,zD,zD,zD,zD] 37))=V at *
 go_loopw [6] (fun vi wr=>∃i:Nat,i<=l.length/\vi=J i/\∃P Y,Lw ⟨w,fun _=>True⟩ P wr w.heap.size Y (i*10000) (i*100)) (fun vi _=>l.length - (intOf vi).toNat)
 case atStart=>exact ⟨0,L4c _,rfl,_,_,xv.out⟩
 case round =>
  obtain⟨i,hi,rfl,P,Y,hL⟩:=hrel;have xj:=hid hL;clear hL;by_cases hlt:i < l.length
  ·obtain ⟨s,hx⟩:∃s,l[i]?=some s:=⟨_,L1b hlt⟩
   obtain⟨sb,so,rfl,xb,xk⟩:=HL.out R5;have xn:=HS.out s (L2a hx);have xa:=xk i s hx;obtain⟨k,ka,kx,g,la,ln,lc,ba,bn,bc⟩:=s;have x0:w.cell? ⟨sb,so+i*6,none⟩=some (J k):=xa 0 _ rfl;have x1:w.cell? ⟨sb,so+i*6+1,none⟩=some (J ka):=xa 1 _ rfl;have x2:w.cell? ⟨sb,so+i*6+2,none⟩=some (J kx):=xa 2 _ rfl;have x3:w.cell? ⟨sb,so+i*6+3,none⟩=some (.slice g.a g.n g.c):=xa 3 _ rfl
   have x4:w.cell? ⟨sb,so+i*6+4,none⟩=some (.slice la ln lc):=xa 4 _ rfl;have x5:w.cell? ⟨sb,so+i*6+5,none⟩=some (.slice ba bn bc):=xa 5 _ rfl;have HX:Hid (∀u,L0d w u->(u.cell? ⟨sb,so+i*6,none⟩=some (J k)/\u.cell? ⟨sb,so+i*6+1,none⟩=some (J ka)/\u.cell? ⟨sb,so+i*6+2,none⟩=some (J kx)/\u.cell? ⟨sb,so+i*6+3,none⟩=some (.slice g.a g.n g.c)/\u.cell? ⟨sb,so+i*6+4,none⟩=some (.slice la ln lc)/\u.cell? ⟨sb,so+i*6+5,none⟩=some (.slice ba bn bc))):=hid fun u hu=>⟨keep hu xb x0,keep hu xb x1,keep hu xb x2,keep hu xb x3,keep hu xb x4,keep hu xb x5⟩
   have xe:Hid (k∈ks->∀U,Lw ⟨w,fun _=>True⟩ P U w.heap.size Y (i*10000) (i*100)->Calls prog 11 #[zB w.heap.size,.agg #[J k,J ka,J kx,.slice g.a g.n g.c,.slice la ln lc,.slice ba bn bc]] U fun e w'=>e=.returned (.bool true)/\∃P2 Y2,Lw ⟨w,fun _=>True⟩ P2 w' w.heap.size Y2 (i*10000+10000) (i*100+100)):=hid fun hk U hU=>xn hk P U Y _ _ R5 R5 hU
   have xr:(i:Int) < (l.length:Int):=by omega
   clear xa xk x0 x1 x2 x3 x4 x5 hx xn;go_wp2_with fail;go_loopw [7,8] (fun vf vj wr2=>∃(j:Nat) (fb:Bool),j<=ks.length/\vj=J j/\vf=.bool fb/\(fb=true↔k∈ks.take j)/\Lw ⟨w,fun _=>True⟩ P wr2 w.heap.size Y (i*10000) (i*100)) (fun _ vj _=>ks.length - (intOf vj).toNat)
   case atStart=>exact ⟨0,false,by omega,rfl,rfl,⟨fun e=>(by cases e),fun e=>by simp at e⟩,xj.out⟩
   case round =>
    obtain⟨j,fb,hj,rfl,rfl,xh,xc⟩:=hrel;have xd:=hid xc;obtain⟨y0,y1,y2,y3,y4,y5⟩:=HX.out _ xc.kept;have xg:=hid xh;have xx:=xc.kept.size;by_cases hlj:j < ks.length
    ·obtain ⟨z,hz⟩:∃z,ks[j]?=some z:=⟨_,L1b hlj⟩
     have kj:=keep xc.kept hkb (HK.out j z hz);have xp:(j:Int) < (ks.length:Int):=by omega
     have xf:Hid (k∈ks.take (j+1)↔k∈ks.take j\/k=z):=hid (by rw [List.take_add_one,hz];simp);clear hz;clear xc xh y1 y2 y3 y4 y5
     cases fb with
     | true =>
      have xi:=xg.out.1 rfl;go_wp2_with fail;go_region
      all_goals go_wp2_with fail
      all_goals go_roundw
      case rel=>exact ⟨j+1,true,by omega,by go_num,rfl,⟨fun _=>xf.out.2 (L4a xi),fun _=>rfl⟩,xd.out.below (by repeat (first | exact L3b _ _ | refine L3c ?_))⟩
      case measure=>simp [intOf];omega
     | false =>
      have xi:¬k∈ks.take j:=fun e=>by have:=xg.out.2 e;cases this
      by_cases he:k=z
      ·have xu:(k == z)=true:=beq_iff_eq.2 he
       go_wp2_with fail;go_region
       all_goals go_wp2_with fail
       all_goals go_roundw
       case rel=>exact ⟨j+1,true,by omega,by go_num,rfl,⟨fun _=>xf.out.2 (L4b he),fun _=>rfl⟩,xd.out.below (by repeat (first | exact L3b _ _ | refine L3c ?_))⟩
       case measure=>simp [intOf];omega
      ·have xu:(k == z)=false:=L2c.2 he
       go_wp2_with fail;go_region
       all_goals go_wp2_with fail
       all_goals go_roundw
       case rel=>exact ⟨j+1,false,by omega,by go_num,rfl,⟨fun e=>(by cases e),fun e=>((xf.out.1 e).elim xi he).elim⟩,xd.out.below (by repeat (first | exact L3b _ _ | refine L3c ?_))⟩
       case measure=>simp [intOf];omega
    ·obtain rfl:j=ks.length:=by omega
     have xs:¬(ks.length:Int) < (ks.length:Int):=by omega
     clear xc xh
     cases fb with
     | true =>
      have xw:Hid (k∈ks):=hid (by have:=xg.out.1 rfl;rwa [List.take_length] at this);go_wp2_with (first | (go_at_call 11;refine (xe.out xw.out _ xd.out).mono ?_;rintro e w3 ⟨rfl,P2,Y2,xo⟩;have xq:=hid xo;clear xo) | (go_at_call 12;refine (a6D xq.out R5).mono ?_;rintro e w4 ⟨rfl,xl⟩;have xt:=hid xl;clear xl))
      go_roundw
      case rel=>exact ⟨i+1,by omega,by go_num,P2,Y2,xt.out.mono R5 R5⟩
      case measure=>simp [intOf];omega
     | false =>
      go_wp2_with fail;go_roundw
      case rel=>exact ⟨i+1,by omega,by go_num,P,Y,xd.out.mono R5 R5⟩
      case measure=>simp [intOf];omega
  ·obtain rfl:i=l.length:=by omega
   have xs:¬(l.length:Int) < (l.length:Int):=by omega
   go_wp2_with fail;go_ret;exact⟨rfl,xj.out.kept⟩
section
variable {g:PgR} {w:World}
theorem uS {own:Own} {mb:Nat} {R:McR} (h:A4 w own mb g R) (ho:aL R) (hal:(A0 R.abs).length<=1000) :
  Calls prog 64 #[zB mb] w fun e w'=>fM own mb g R w e w':=by
 have H:=hid (mE h ho hal);clear h ho hal;go_enter func64,ntmps64;go_wp2_with (go_at_call 102;refine H.out.mono ?_;rintro e w2 ⟨rfl,hq⟩;have HQ:=hid hq;clear hq)
 go_ret;exact⟨rfl,HQ.out⟩
theorem RV.collect {R:RfR} {t:McA} (h:RV g R t):RV g { R with ths:=L0 (A0 R.abs) R.ths.length R.ths } (J4 t):=by
 obtain⟨e1,e2⟩:=rF (A0 R.abs) R.ths;refine⟨?_,gA h.i,?_,?_⟩
 ·have:=h.v.collect h.i
  show C7 ((L0 (A0 R.abs) R.ths.length R.ths).map ThR.slot) (RfR.abs { R with ths:=L0 (A0 R.abs) R.ths.length R.ths }) (J4 t);rw[e2];have e3:RfR.abs { R with ths:=L0 (A0 R.abs) R.ths.length R.ths }=(fT (R.ths.map ThR.slot) R.abs).2:=by
   show (⟨R.st,R.out,R.frs.map FrR.abs,(L0 (A0 R.abs) R.ths.length R.ths).map ThR.abs,R.dr⟩:McA)=_;rw[e1];rfl
  rw[e3];exact this
 ·show N6 ((L0 (A0 R.abs) R.ths.length R.ths).map ThR.abs)
  rw[e1];exact h.th.forget _
 ·show R.cap=(V3 t.obs (A0 t)).length
  rw[T8];exact h.cap
theorem tK {w0:X4} {P:A5} {yb N M i xb cb:Nat} {Y:PlR} (h:Lw w0 P w yb Y N M) (hi:Y.ps[i]?=some (xb,cb)) (hN:N<=10000000000) :
  ∃n:Int,∀U,L0d w U->Calls prog 64 #[zB xb] U fun e w1=>e=.returned (J n)/\U.heap.size<=w1.heap.size/\(∀k,k < U.heap.size->w.heap.size<=k->w1.heap[k]?=U.heap[k]?) /\
   ∀V,L0d w1 V->Calls prog 65 #[zB cb] V fun e w2=>e=.returned (J n)/\∃P2,Lw w0 P2 w2 yb Y N M:=by
 obtain⟨ox,gx,RX,oc,gc,RC,t,h1,h2,h3,h4,h5,h6,h7,h8,h9⟩:=(h.pair i (xb,cb) hi).ex;refine⟨(iZ (RC.ths.map ThR.slot) (A0 RC.abs):Int),fun U hU=>?_⟩;have xf:=h.below hU;have hM:A4 U ox xb gx RX:=by have:=xf.sep.F (1,i);rw [h1] at this;exact this
 have xj:A4 w ox xb gx RX:=by have:=h.sep.F (1,i);rw [h1] at this;exact this
 have xd:C8 gx RX.abs:=by rw [h3.abs];exact h4
 have xo:(A0 RX.abs).length<=1000:=xd.alive_len;have xg:McR.abs { RX with obs:=K7 RX.obs (A0 RX.abs) }=J4 t:=by
  show (⟨RX.st,RX.out,RX.frs.map FrR.abs,(K7 RX.obs (A0 RX.abs)).map ObR.abs,RX.dr⟩:McA)=_;rw[qB,<- h3.abs];rfl
 have xm:((taken RX.obs:Int) - (taken (K7 RX.obs (A0 RX.abs)):Int))=(iZ (RC.ths.map ThR.slot) (A0 RC.abs):Int):=by
  have f1:=h7.v.freed;have f2:=iH h4;have f3:taken RX.obs=L3 t.obs:=by rw [U9,<- h3.abs];rfl
  have f4:taken (K7 RX.obs (A0 RX.abs))=L3 (J4 t).obs:=by rw [U9,<- xg];rfl
  rw[f3,f4];omega
 refine (uS hM (xd.heapOk h5) xo).mono ?_;rintro e w1 ⟨rfl,xl,xk⟩;have hT:=xk.touched;obtain⟨k1,k2⟩:=dP (R':={ RX with obs:=K7 RX.obs (A0 RX.abs) }) hM hT;have xp:=xf.sep.upd (1,i) (Y3 ox xb gx { RX with obs:=K7 RX.obs (A0 RX.abs) }) hT.size (by rw [h1];exact k1) xl (by rw [h1];exact k2);have xi:Stp P U (P.put (1,i) (Y3 ox xb gx { RX with obs:=K7 RX.obs (A0 RX.abs) })) w1:=Stp.one (1,i) _ hT.os hT.tape hT.output hT.size (by rw [h1];exact k1) (by rw [h1];exact k2)
 refine⟨by rw [xm],hT.size,fun k hk hk2=>hT.block k hk ?_,fun V hV=>?_⟩
 ·cases e:ox k with
  | none=>rfl
  | some q=>have:=xj.lt k q e;omega
 ·have xe:=xp.below hV
  have hR:A9 V oc cb gc RC:=by
   have:=xe.F (2,i);rw[A5.put_ne _ (I3 R4 _ _),h2] at this;exact this
  refine (kS hR (h7.bd (h6.pgOk h5) R5) h7.rin h7.sl).mono ?_;rintro e w2 ⟨rfl,xh,xa⟩;obtain⟨q1,q2⟩:=kT (g:=gc) (mb:=cb) (R:=RC) (R':={ RC with ths:=L0 (A0 RC.abs) RC.ths.length RC.ths }) xa (fun b q e=>⟨q,e⟩);have e2:(P.put (1,i) (Y3 ox xb gx { RX with obs:=K7 RX.obs (A0 RX.abs) })) (2,i)=eY oc cb gc RC:=by rw [A5.put_ne _ (I3 R4 _ _)];exact h2
  have xn:=xe.upd (2,i) (eY oc cb gc { RC with ths:=L0 (A0 RC.abs) RC.ths.length RC.ths }) xa.size (by rw [e2];exact q1) xh (by rw [e2];exact q2);have xc:=Stp.one (P:=P.put (1,i) (Y3 ox xb gx { RX with obs:=K7 RX.obs (A0 RX.abs) })) (2,i) (eY oc cb gc { RC with ths:=L0 (A0 RC.abs) RC.ths.length RC.ths }) xa.os xa.tape xa.output xa.size (by rw [e2];exact q1) (by rw [e2];exact q2)
  refine⟨rfl,_,h.put2 (L1c _) hi xn (((Stp.below hU).trans xi).trans ((Stp.below hV).trans xc)) ⟨ox,gx,_,oc,gc,_,J4 t,?_,A5.put_same _ _ _,⟨xg,h3.nil⟩,gA h4,h5,h6,h7.collect,?_,kI h9.1,h9.2⟩⟩
  ·rw [A5.put_ne _ (I3 R4 _ _),A5.put_same]
  ·show (L0 (A0 RC.abs) RC.ths.length RC.ths).length<=N
   rw[cF];exact h8
end
theorem a0p {w0:X4} {w:World} {P:A5} {yb N M i xb cb:Nat} {Y:PlR} (h:Lw w0 P w yb Y N M) (hi:Y.ps[i]?=some (xb,cb)) (hN:N<=9999990000) (a b:Int) (fa la sa:Option Addr) (fn fc ln lc sn sc:Nat) :
  Calls prog 35 #[zB yb,.agg #[zB xb,zB cb],.agg #[J 8,J a,J b,.slice fa fn fc,.slice la ln lc,.slice sa sn sc]] w fun e w'=>e=.returned (.bool true)/\∃P2,Lw w0 P2 w' yb Y N M:=by
 obtain⟨n,xc⟩:=tK h hi R5;have HR:=hid xc;clear xc h hi;go_enter func35,ntmps35;go_wp2_with (first | (go_at_call 64;refine (HR.out _ P8).mono ?_;rintro e w1 ⟨rfl,xd,xe,xa⟩;have c1:w1.cell? ⟨w.heap.size,1,none⟩=some (zB cb):=(L0b (a:=⟨w.heap.size,1,none⟩) (xe w.heap.size Q9 (L1c _))).trans R3;have xf:w.heap.size < w1.heap.size:=(by simp at xd;omega);have HC:=hid xa;clear xa xe xd) | (go_at_call 65;refine (HC.out _ (L3b _ _)).mono ?_;rintro e w2 ⟨rfl,P2,hL⟩;have HL:=hid hL;clear hL))
 go_ret;exact⟨rfl,P2,HL.out⟩
theorem a8V:(prog.info? 3).map (fun i=>(i.zero,i.size,i.bytes))=some (some (J 0),1,8):=by kernel_rfl
def a8r (l:List Int) (w:World) (e:Ending) (w':World):Prop :=
 ∃b cap,e=.returned (.slice (zA b) l.length cap)/\w'.ownsRow w.heap.size 3 1 (.slice (zA b) (l.length+2) cap) (l.length+2) ((l.map fun n=>J n)++[J (-7070),J (-7070)])/\L0d w w'
theorem tD {w:World} {la:Option Addr} {l:List Int} {c:Nat} (hl:K1 w la l) (hn:l.length<=10000000) :
  Calls prog 14 #[.slice la l.length c] w fun e w'=>a8r l w e w':=by
 obtain⟨i3,hi,hz,xb,xd⟩:=info_parts a8V;have HI:=hid hi;have HZ:=hid hz;have xf:=hid xb;have xe:=hid xd;have HL:=hid hl;have xa:Hid (0 < l.length->∃d,la=some d/\∀j u,(l.map fun n=>Value.int .i64 n)[j]?=some u->w.cell? (d.add j)=some u):=hid fun hm=>by
  obtain⟨b,o,e,hb,hc⟩:=HL.out hm;refine⟨⟨b,o,none⟩,e,fun j u hj=>?_⟩;rw[List.getElem?_map] at hj
  cases ej:l[j]? with
  | none=>rw [ej] at hj;cases hj
  | some x =>
   rw[ej] at hj;obtain rfl:=L5b hj;rw[dZ];exact hc j x ej
 clear hi hz xb xd hl;go_enter func14,ntmps14;go_wp2_with (at_builtin;go_must (refine A8 _ rfl (.tmp 4) (.tmp 5) 24 rfl w.heap.size 3 i3 _ 1 8 underlying24 HI.out HZ.out xf.out xe.out rfl R4 zD 0 [] rfl (World.ownsRow_nil _ _ _ _) la l.length c (l.map fun n=>J n) rfl R6 xa.out (by intro u hu;simp at hu;obtain ⟨n,_,rfl⟩:=hu;rfl) Q7 R5 (L1c _) ?_))
 intro v1 w1 hown1 hgrow1 _
 try simp only [Nat.zero_add,List.nil_append] at hown1
 have xc:=hid hown1;have xl:Hid (L0d w w1):=hid ⟨hgrow1.os,hgrow1.tape,hgrow1.output,hgrow1.size,fun k hk=>hgrow1.block k hk (by simp [Value.ownBlock])⟩;have xj:=hgrow1.size;clear hown1 hgrow1;go_wp2_with (at_builtin;go_must (refine A8 _ rfl (.tmp 7) (.tmp 8) 24 rfl w.heap.size 3 i3 _ 1 8 underlying24 HI.out HZ.out xf.out xe.out rfl R4 v1 l.length (l.map fun n=>J n) rfl (xc.out.alloc _) (zA w1.heap.size) 2 2 [J (-7070),J (-7070)] rfl rfl (fun _=>⟨_,rfl,World.news_of_block (cs:=#[J (-7070),J (-7070)]) (t:=3) (fr:=(0,0)) (B0 R6)⟩) (by simp [Value.oneCell']) Q7 R5 Q9 ?_))
 intro v2 w2 hown2 hgrow2 _;obtain⟨g2,cap2,xg,_,_⟩:=hown2.form R5;subst xg;have xh:l.length+2<=cap2:=by
  rcases hown2.2 with ⟨h0,_⟩ | ⟨_,_,_,hv,_,_,h3,_⟩
  ·cases h0
  ·cases hv;exact h3
 have xi:=hid hown2;have xk:=hid (M8 (L3a xl.out xj _) (xc.out.alloc _) hgrow2);have xm:(l.length:Int)<=(cap2:Int):=by omega
 clear hown2 hgrow2;go_wp2_with fail;go_ret;exact⟨g2,cap2,rfl,xi.out,xk.out⟩
end Go.Proofs.YtbkmgoffiigdbaaGreatDoor
