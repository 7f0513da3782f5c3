import Derived.Test.YtbkmgoffiigdbaaGreatDoorVCb
namespace Go.Proofs.YtbkmgoffiigdbaaGreatDoor
open Go.RowKit Go.Sort Go.Proofs.Tryz
set_option maxHeartbeats 4000000
set_option maxRecDepth 100000
section
variable {R:McR} {g:PgR} {mb:Nat} {own:Own} {w:World}
def nK (own:Own) (mb:Nat) (g:PgR) (R:McR) (l:List Int) (w:World) (e:Ending) (w':World):Prop :=
 ∃own' dv,e=.returned (J 0)/\A4 w' own' mb g { R with dv:=dv,dr:=R.dr++l }/\A2 own w own' w'
theorem a2x {l:List Int} {W w5:World} {v:Value} (hm:A4 w own mb g R) (hB:L0d w W) (hgrow:W.grownBy w5 R.dv.ownBlock)
  (hown:w5.ownsRow 0 3 1 v (R.dr.length+l.length) ((R.dr.map fun n=>J n)++l.map fun n=>J n)) (hat:∀gb,v.ownBlock=some gb->R.dv.ownBlock=some gb\/gb=W.heap.size) :
  w5.frozen? ⟨mb,5,none⟩=false/\w5.cell? ⟨mb,5,none⟩=some R.dv/\mb < w5.heap.size/\nK own mb g R l w (.returned (J 0)) (w5.setCell ⟨mb,5,none⟩ v):=by
 have xj:mb < w.heap.size:=hm.lt mb _ hm.me;have xc:∀b,R.dv.ownBlock=some b->own b=some .draws:=hm.draws.2
 have xi:R.dv.ownBlock≠some mb:=fun e=>by have:=xc mb e;rw [hm.me] at this;cases this
 have xk:v.ownBlock≠some mb:=fun e=>by
  rcases hat mb e with h1 | h1
  ·exact xi h1
  ·have:=hB.size;omega
 have xg:w.heap.size<=w5.heap.size:=L5a hB.size hgrow.size;have xe:E7 w own v .draws:=fun b hb=>by
  rcases hat b hb with h1 | h1
  ·exact L4a (xc b h1)
  ·exact L4b (by have:=hB.size;omega)
 have xb:∀k,k < w.heap.size->own k≠some .draws->w5.heap[k]?=w.heap[k]?:=fun k hk ho=>by
  rw[hgrow.block k (L0a hk hB.size) (fun e=>ho (xc k e.symm)),hB.block k hk]
 have xa:=xb mb xj (by rw [hm.me];simp);have xf:∀j,w5.frozen? ⟨mb,j,none⟩=false:=fun j=>by rw [L0c (w:=w) (a:=⟨mb,j,none⟩) xa];exact hm.fz j
 have xh:w5.cell? ⟨mb,5,none⟩=some R.dv:=by rw [L0b (w:=w) (a:=⟨mb,5,none⟩) xa];exact hm.c5
 have xd:mb < w5.heap.size:=by omega
 have hM:A4 (w5.setCell ⟨mb,5,none⟩ v) (own.upd v.ownBlock .draws) mb g { R with dv:=v,dr:=R.dr++l }:=by
  refine A4.setDraws (v:=v) (l:=R.dr++l) hm (by simpa using xg) (fun k hk h1 h2=>?_) (fun j hj=>?_) ?_ (fun j=>?_) ?_ xe
  ·rw [heap_setCell_other _ _ _ _ h1];exact xb k hk h2
  ·rw [<- L0b (w:=w) (w':=w5) (a:=⟨mb,j,none⟩) xa]
   go_simp
  ·go_simp
  ·have:=xf j
   go_simp
  ·have:=ownsRow_setCell_other hown (a:=⟨mb,5,none⟩) xk v
   simpa using this
 refine⟨xf 5,xh,xd,own.upd v.ownBlock .draws,v,rfl,hM,⟨?_,?_,?_,by simpa using xg,fun k hk hno=>?_,fun k hk=>Own.upd_old xe hk⟩⟩
 ·exact hgrow.os.trans hB.os
 ·exact hgrow.tape.trans hB.tape
 ·exact hgrow.output.trans hB.output
 ·rw [heap_setCell_other _ _ _ _ (fun e=>by rw [e,hm.me] at hno;cases hno)]
  exact xb k hk (by rw [hno];simp)
def a8s (w:World) (a:Option Addr) (l:List Int):Prop:=0 < l.length->∃b o,a=some ⟨b,o,none⟩/\b < w.heap.size/\∀(i:Nat) (x:Int),l[i]?=some x->w.cell? ⟨b,o+i,none⟩=some (J x)
theorem sK (h:A4 w own mb g R) (a:Option Addr) (c:Nat) (l:List Int) (hl:a8s w a l) (hn:R.dr.length+l.length<=200) :
  Calls prog 101 #[.pointer (some ⟨mb,4,none⟩),.slice a l.length c] w fun e w'=>nK own mb g R l w e w':=by
 have c5:=h.c5;have xn:mb < w.heap.size:=h.lt mb _ h.me;have xb:∃xf cc,R.dv=.slice xf R.dr.length cc:=by
  rcases h.draws.1.2 with ⟨e,e0⟩ | ⟨gb,xl,_,e,_⟩
  ·exact ⟨none,0,by rw [e,e0]⟩
  ·exact ⟨_,_,e⟩
 obtain⟨xf,cc,xc⟩:=xb;have HO:=hid h.draws.1;rw[xc] at c5;have xh:=hid xc;have HH:=hid h;have xa:Hid (∀W,L0d w W->0 < l.length->∃d,a=some d/\∀j u,(l.map fun n=>Value.int .i64 n)[j]?=some u->W.cell? (d.add j)=some u):=fun W hW h0=>by
  obtain⟨b,o,h1,h2,h3⟩:=hl h0;refine⟨_,h1,fun j u hu=>?_⟩;rw[List.getElem?_map] at hu;obtain⟨x,hx,rfl⟩:=Option.map_eq_some_iff.1 hu;have:=(hW.cell (p:=⟨b,o+j,none⟩) h2).trans (h3 j x hx)
  cases j with
  | zero=>simpa [Addr.add] using this
  | succ j=>simpa [Addr.add] using this
 have xo:¬(200:Int) < (R.dr.length:Int)+(l.length:Int):=by omega
 have xm:IntKind.i64.wrap ((R.dr.length:Int)+(l.length:Int))=(R.dr.length:Int)+(l.length:Int):=Go.IntWalk.i64_in _ R5;clear h xc hl;obtain⟨i3,hi,hz,xd,xe⟩:=info_parts iE;have HI:=hid hi;have HZ:=hid hz;have xk:=hid xd;have xj:=hid xe;clear hi hz xd xe;go_enter func101,ntmps101;go_wp2_with (at_builtin;go_must (refine A8 _ rfl (.tmp 18) (.tmp 19) 24 rfl 0 3 i3 _ 1 8 underlying24 HI.out HZ.out xk.out xj.out rfl R4 R.dv R.dr.length (R.dr.map fun n=>J n) (by rw [xh.out];rfl) HO.out a l.length c (l.map fun n=>J n) rfl R6 (xa.out _ (L3b _ _)) (by intro u hu;obtain ⟨n,_,rfl⟩:=List.mem_map.1 hu;rfl) Q7 R5 (L4c _) ?_))
 intro v' w5 hown5 hgrow5 hat5;obtain⟨y0,y1,y2,hP⟩:=a2x HH.out (L3b _ _) hgrow5 hown5 hat5;have HP:=hid hP;rw[xh.out] at y1;obtain⟨xg,cc5,xi⟩:∃xg cc5,v'=.slice xg (R.dr.length+l.length) cc5:=by
  rcases hown5.2 with ⟨e,e0⟩ | ⟨gb,xl,_,e,_⟩
  ·exact ⟨none,0,by rw [e,e0]⟩
  ·exact ⟨_,_,e⟩
 subst xi;clear hown5 hgrow5 hat5 hP;go_wp2_with fail;go_ret;exact HP.out
theorem a4j (h:A4 w own mb g R) (a:Option Addr) (c:Nat) (l:List Int) (hl:a8s w a l) (hn:R.dr.length+l.length<=200) :
  Calls prog 62 #[zB mb,.slice a l.length c] w fun e w'=>nK own mb g R l w e w':=by
 have HA:=hid (sK h a c l hl hn);have xb:mb < w.heap.size:=h.lt mb _ h.me;clear h hl;go_enter func62,ntmps62;go_wp2_with (go_at_call 101;refine HA.out.mono ?_;rintro e w2 ⟨xa,dv,rfl,hm,ht⟩)
 go_ret;exact⟨xa,dv,rfl,hm,ht⟩
theorem qF (h:A4 w own mb g R) (a:Option Addr) (n c:Nat) (hn:n<=4611686018427387904) (hd:R.dr.length<=1000) (hl:200 < R.dr.length+n) :
  Calls prog 101 #[.pointer (some ⟨mb,4,none⟩),.slice a n c] w fun e w'=>e=.returned (J 6)/\w'=w:=by
 have c5:=h.c5;have xd:mb < w.heap.size:=h.lt mb _ h.me;obtain⟨xa,cc,xb⟩:∃xa cc,R.dv=.slice xa R.dr.length cc:=by
  rcases h.draws.1.2 with ⟨e,e0⟩ | ⟨gb,xe,_,e,_⟩
  ·exact ⟨none,0,by rw [e,e0]⟩
  ·exact ⟨_,_,e⟩
 rw[xb] at c5;have xc:(200:Int) < (R.dr.length:Int)+(n:Int):=by omega
 generalize R.dr.length=nd at *
 clear h xb;go_enter func101,ntmps101;go_wp2_with fail;go_ret;exact⟨rfl,rfl⟩
theorem a1W (h:A4 w own mb g R) (a:Option Addr) (n c:Nat) (hn:n<=4611686018427387904) (hd:R.dr.length<=1000) (hl:200 < R.dr.length+n) :
  Calls prog 62 #[zB mb,.slice a n c] w fun e w'=>e=.returned (J 6)/\w'=w:=by
 have HA:=hid (qF h a n c hn hd hl);clear h hn hd hl;go_enter func62,ntmps62;go_wp2_with (go_at_call 101;refine HA.out.mono ?_;rintro e w2 ⟨rfl,hw⟩;rw [hw];clear hw w2)
 go_ret;exact⟨rfl,rfl⟩
end
theorem lU {w:World} {B b c lc:Nat} {la:Option Addr} {l:List Int} (_hB:B<=w.heap.size) (hn:l.length<=10000000) (hr:w.ownsRow B 3 1 (.slice (zA b) (l.length+2) c) (l.length+2) ((l.map fun n=>J n)++[J (-7070),J (-7070)])) (hl:K1 w la l) :
  Calls prog 18 #[.slice (zA b) l.length c,.slice la l.length lc] w fun e w'=>e=.returned (.bool true)/\But (·=b) w w':=by
 obtain⟨xw,xi⟩:=hr.lt b rfl;have xd:l.length+2<=c/\c<=maxLen:=by
  rcases hr.2 with ⟨h0,_⟩ | ⟨_,_,_,hv,_,_,h3,h4,_⟩
  ·cases h0
  ·cases hv;exact ⟨h3,h4⟩
 have xl:∀j,w.frozen? ⟨b,j,none⟩=false:=fun j=>by
  rcases hr.2 with ⟨h0,_⟩ | ⟨_,_,_,hv,_,hg,_⟩
  ·cases h0
  ·cases hv;simp [World.frozen?,hg]
 have xh:∀j u,((l.map fun n=>Value.int .i64 n)++[J (-7070),J (-7070)])[j]?=some u->w.cell? ⟨b,j,none⟩=some u:=fun j u hu=>by
  have hj:=(L1a.1 hu).1;simp at hj;rw[hr.cellAt j R5];exact hu
 have b0:w.cell? ⟨b,l.length,none⟩=some (J (-7070)):=xh _ _ (by rw [List.getElem?_append_right R6];simp);have b1:w.cell? ⟨b,l.length+1,none⟩=some (J (-7070)):=xh _ _ (by rw [List.getElem?_append_right R6];simp);have xu:(l.length:Int)+2<=(c:Int):=by omega
 have xt:=xd.2;unfold maxLen at xt;have HF:=hid xl;have HC:=hid xh;have HL:=hid hl;clear hr xh hl xl xd;go_enter func18,ntmps18;go_wp2_with fail;go_loopw [6,7] (fun v vi wr=>∃i:Nat,i<=l.length/\vi=J i/\v=.bool true/\L0d w wr) (fun _ vi _=>l.length - (intOf vi).toNat)
 case atStart=>exact ⟨0,L4c _,rfl,rfl,L3b _ _⟩
 case round =>
  obtain⟨i,hi,rfl,rfl,xb⟩:=hrel;have xa:=hid xb;by_cases hlt:i < l.length
  ·obtain ⟨x,hx⟩:∃x,l[i]?=some x:=⟨_,L1b hlt⟩
   obtain⟨b2,o2,rfl,xp,xe⟩:=HL.out R5;have x1:=keep xb xi (HC.out i (J x) (by rw [List.getElem?_append_left (by simpa using hlt),List.getElem?_map,hx];rfl));have x2:=keep xb xp (xe i x hx);have xk:(i:Int) < (l.length:Int):=by omega
   have xn:(i:Int) < (l.length:Int)+2:=by omega
   clear xb xe hx;go_wp2_with fail;go_region
   all_goals go_wp2_with fail
   all_goals go_roundw
   case rel=>exact ⟨i+1,by omega,by go_num,rfl,by repeat (first | exact xa.out | refine L3c ?_)⟩
   case measure=>simp [intOf];omega
  ·obtain rfl:i=l.length:=by omega
   have xv:¬(l.length:Int) < (l.length:Int):=by omega
   clear xb;go_wp2_with fail;go_loopw [8] (fun vi wr2=>∃i:Nat,i<=l.length+2/\vi=J i/\But (·=b) w wr2/\(∀j,j < l.length+2->∃z,wr2.cell? ⟨b,j,none⟩=some z)/\∀j,wr2.frozen? ⟨b,j,none⟩=false) (fun vi _=>l.length+2 - (intOf vi).toNat)
   case atStart=>exact ⟨0,L4c _,rfl,⟨xa.out.os,xa.out.tape,xa.out.output,xa.out.size,fun k hk _=>xa.out.block k hk⟩,fun j hj=>⟨_,keep xa.out xi (HC.out j _ (L1b Q9))⟩,fun j=>E3 xa.out xi (HF.out j)⟩
   case round =>
    obtain⟨i,hi,rfl,xc,xj,xg⟩:=hrel;have xf:=hid xc;have xs:=hid xj;have xq:=hid xg;have xr:b < wr.heap.size:=L0a xi xc.size;by_cases hlt:i < l.length+2
    ·obtain ⟨z,hz⟩:=xj i hlt
     have hf:=xg i;have xk:(i:Int) < (l.length:Int)+2:=by omega
     clear xc xj xg;go_wp2_with fail;go_roundw
     case rel =>
      refine⟨i+1,by omega,by go_num,xf.out.setCell (p:=⟨b,i,none⟩) (L4a rfl) _,fun j hj=>?_,fun j=>?_⟩
      ·by_cases e:j=i
       ·subst e;exact ⟨_,World.cell?_setCell_same _ _ _ hz⟩
       ·obtain ⟨z',xo⟩:=xs.out j hj
        exact⟨z',(World.cell?_setCell_other _ _ _ _ (fun e'=>e (by simp only [Addr.mk.injEq] at e';omega))).trans xo⟩
      ·have:=xq.out j
       go_simp
     case measure=>simp [intOf];omega
    ·obtain rfl:i=l.length+2:=by omega
     clear xc xj xg;have xm:¬((l.length+2:Nat):Int) < (l.length:Int)+2:=by omega
     go_wp2_with fail;go_ret;exact⟨rfl,xf.out⟩
section
variable {g:PgR}
theorem C8.draw {t:McA} (h:C8 g t) (l:List Int) (hl:t.dr.length+l.length<=200):C8 g { t with dr:=t.dr++l } :=
 ⟨h.run,h.frs,h.depth,h.vals,h.obs,h.cap,h.out,by show (t.dr++l).length<=200;rw [List.length_append];exact hl⟩
theorem Is.draw {t:McA} {R:McR} (h:Is g t R) (l:List Int) (dv:Value):Is g { t with dr:=t.dr++l } { R with dv:=dv,dr:=R.dr++l }:=by
 obtain⟨rfl,hn⟩:=h;exact⟨rfl,hn⟩
theorem RV.draw {R:RfR} {t:McA} (h:RV g R t) (l:List Int) (hl:t.dr.length+l.length<=200) (da:Option Addr) (dc:Nat):RV g { R with da:=da,dc:=dc,dr:=R.dr++l } { t with dr:=t.dr++l } :=
 ⟨h.v.draw l,h.i.draw l hl,h.th,h.cap⟩
end
section
variable {M N yb:Nat} {P:A5} {Y:PlR} {w w':World} {w0:X4}
theorem Lw.but {b:Nat} (h:Lw w0 P w yb Y N M) (hB:But (·=b) w w') (hb:∀i,¬(P i).B b) (h0:b≠0) (hb0:¬(b < w0.w.heap.size/\w0.F b)):Lw w0 P w' yb Y N M :=
 ⟨h.sep.later hB.size fun k hk hq=>hB.block k hk fun e=>by
  have e':k=b:=e;subst e';rcases hq with ⟨i,hi⟩ | hq
  ·exact hb i hi
  ·exact h0 hq,h.p0,h.law,h.pair,h.len,h.nps,⟨hB.os.trans h.bel.os,hB.tape.trans h.bel.tape,hB.output.trans h.bel.output,L5a h.bel.size hB.size,fun k hk hF=>(hB.block k (L0a hk h.bel.size) fun e=>hb0 (by have e':k=b:=e;subst e';exact ⟨hk,hF⟩)).trans (h.bel.block k hk hF)⟩,h.lo⟩
theorem a0O {own:Own} {mb:Nat} {g:PgR} {R R':RfR} (hT:A2 own w own w') (hda:∀b q,R'.da=some ⟨b,q,none⟩->w.heap.size<=b) :
  (∀k,k < w.heap.size->¬(eY own mb g R).B k->w'.heap[k]?=w.heap[k]?)/\∀k,(eY own mb g R').B k->(eY own mb g R).B k\/w.heap.size<=k:=by
 refine⟨fun k hk hn=>hT.block k hk (Decidable.byContradiction fun e=>hn (L4a e)),fun k hk=>?_⟩;rcases hk with hk | hk | ⟨o,hk⟩
 ·exact L4a (L4a hk)
 ·exact L4a (L4b (L4a hk))
 ·exact L4b (hda k o hk)
theorem a3i {i xb cb:Nat} (h:Lw w0 P w yb Y N M) (hi:Y.ps[i]?=some (xb,cb)) (l:List Int) (hl:l.length<=10000000) :
  ∃n:Int,∀U,L0d w U->∀a c,K1 U a l->Calls Tryz.prog 62 #[zB xb,.slice a l.length c] U fun e w1=>e=.returned (J n)/\U.heap.size<=w1.heap.size/\(∀k,k < U.heap.size->w.heap.size<=k->w1.heap[k]?=U.heap[k]?)/\sA w0 w1 /\
   ∀V,L0d w1 V->∀la lc,K1 V la l->Calls Tryz.prog 63 #[zB cb,.slice la l.length lc] V fun e w2=>e=.returned (J n)/\V.heap.size<=w2.heap.size/\(∀k,k < V.heap.size->w.heap.size<=k->w2.heap[k]?=V.heap[k]?)/\∃P2,Lw w0 P2 w2 yb Y N M/\∀j k,(P2 j).B k->k < w.heap.size\/U.heap.size<=k:=by
 obtain⟨ox,gx,RX,oc,gc,RC,t,h1,h2,h3,h4,h5,h6,h7,h8,h9⟩:=(h.pair i (xb,cb) hi).ex;have xe:RX.dr=t.dr:=by rw [<- h3.abs];rfl
 have xf:RC.dr=t.dr:=h7.v.dr.symm;have xi:t.dr.length<=200:=h4.dr;have xn:A4 w ox xb gx RX:=by have:=h.sep.F (1,i);rw [h1] at this;exact this
 have xp:A9 w oc cb gc RC:=by have:=h.sep.F (2,i);rw [h2] at this;exact this
 have xo:∀k,w.heap.size<=k->ox k=none:=fun k hk=>by
  cases e:ox k with
  | none=>rfl
  | some q=>have:=xn.lt k q e;omega
 have xs:∀k,w.heap.size<=k->oc k=none:=fun k hk=>by
  cases e:oc k with
  | none=>rfl
  | some q=>have:=xp.lt k q e;omega
 have xd:∀j k,(P j).B k->k < w.heap.size:=fun j k hk=>(P j).lt w (h.sep.F j) k hk
 by_cases hle:t.dr.length+l.length<=200
 ·refine ⟨0,fun U hU a c hla=>?_⟩
  have xl:=h.below hU;have hM:A4 U ox xb gx RX:=by have:=xl.sep.F (1,i);rw [h1] at this;exact this
  refine (a4j hM a c l hla (by rw [xe];exact hle)).mono ?_;rintro e w1 ⟨xa,dv,rfl,xq,hT⟩;obtain⟨k1,k2⟩:=dP (R':={ RX with dv:=dv,dr:=RX.dr++l }) hM hT;have xw:=xl.sep.upd (1,i) (Y3 xa xb gx { RX with dv:=dv,dr:=RX.dr++l }) hT.size (by rw [h1];exact k1) xq (by rw [h1];exact k2);have xh:Stp P U (P.put (1,i) (Y3 xa xb gx { RX with dv:=dv,dr:=RX.dr++l })) w1:=Stp.one (1,i) _ hT.os hT.tape hT.output hT.size (by rw [h1];exact k1) (by rw [h1];exact k2)
  refine⟨rfl,hT.size,fun k hk hk2=>hT.block k hk (xo k hk2),(bM h.bel h.lo ((Stp.below hU).trans xh)).1,fun V hV la lc hlaV=>?_⟩;have xj:=xw.below hV;have e2:(P.put (1,i) (Y3 xa xb gx { RX with dv:=dv,dr:=RX.dr++l })) (2,i)=eY oc cb gc RC:=by rw [A5.put_ne _ (I3 R4 _ _)];exact h2
  have hR:A9 V oc cb gc RC:=by
   have:=xj.F (2,i);rw[e2] at this;exact this
  refine (a5P hR la l lc hlaV (by rw [xf];exact hle)).mono ?_;rintro e w2 ⟨rfl,da,dc,xm,xc,xr⟩;obtain⟨q1,q2⟩:=a0O (g:=gc) (mb:=cb) (R:=RC) (R':={ RC with da:=da,dc:=dc,dr:=RC.dr++l }) xc xr;have xu:=xj.upd (2,i) (eY oc cb gc { RC with da:=da,dc:=dc,dr:=RC.dr++l }) xc.size (by rw [e2];exact q1) xm (by rw [e2];exact q2);have xg:=Stp.one (P:=P.put (1,i) (Y3 xa xb gx { RX with dv:=dv,dr:=RX.dr++l })) (2,i) (eY oc cb gc { RC with da:=da,dc:=dc,dr:=RC.dr++l }) xc.os xc.tape xc.output xc.size (by rw [e2];exact q1) (by rw [e2];exact q2)
  have xt:=hT.size;have xv:=hV.size;refine⟨rfl,xc.size,fun k hk hk2=>xc.block k hk (xs k hk2),_,h.put2 (L1c _) hi xu (((Stp.below hU).trans xh).trans ((Stp.below hV).trans xg)) ⟨xa,gx,_,oc,gc,_,{ t with dr:=t.dr++l },?_,A5.put_same _ _ _,h3.draw l dv,h4.draw l hle,h5,h6,h7.draw l hle da dc,h8,⟨h9.1.st,h9.1.out,h9.1.frs,h9.1.obs⟩,h9.2⟩,fun j k hk=>?_⟩
  ·rw [A5.put_ne _ (I3 R4 _ _),A5.put_same]
  ·by_cases ej:j=(2,i)
   ·rw [ej,A5.put_same] at hk
    rcases q2 k hk with hq | hq
    ·exact L4a (xd (2,i) k (by rw [h2];exact hq))
    ·exact L4b R5
   ·rw [A5.put_ne _ ej] at hk
    by_cases ej2:j=(1,i)
    ·rw [ej2,A5.put_same] at hk
     rcases k2 k hk with hq | hq
     ·exact L4a (xd (1,i) k (by rw [h1];exact hq))
     ·exact L4b hq
    ·rw [A5.put_ne _ ej2] at hk
     exact L4a (xd j k hk)
 ·refine ⟨6,fun U hU a c hla=>?_⟩
  have hM:A4 U ox xb gx RX:=by have:=(h.below hU).sep.F (1,i);rw [h1] at this;exact this
  refine (a1W hM a l.length c R5 (by rw [xe];omega) (by rw [xe];omega)).mono ?_;rintro e w1 ⟨rfl,rfl⟩;refine⟨rfl,L1c _,fun k _ _=>rfl,(h.below hU).bel,fun V hV la lc hlaV=>?_⟩;have xk:L0d w V:=hU.trans (hV.mono hU.size);have hR:A9 V oc cb gc RC:=by have:=(h.below xk).sep.F (2,i);rw [h2] at this;exact this
  refine (a0J hR la l.length lc R5 (by rw [xf];omega) (by rw [xf];omega)).mono ?_;rintro e w2 ⟨rfl,rfl⟩;exact⟨rfl,L1c _,fun k _ _=>rfl,P,h.below xk,fun j k hk=>L4a (xd j k hk)⟩
end
section
variable {w:World}
theorem a2N {B b c:Nat} {l:List Int} {ys:List Value} {m:Nat} (h:w.ownsRow B 3 1 (.slice (zA b) (l.length+m) c) (l.length+m) ((l.map fun n=>J n)++ys)):K1 w (zA b) l:=fun _=>by
 refine⟨b,0,rfl,(h.lt b rfl).2,fun i x hx=>?_⟩;have hi:=(L1a.1 hx).1;rw[Nat.zero_add,h.cellAt i R5,List.getElem?_append_left (by simpa using hi),List.getElem?_map,hx];rfl
theorem a7B {w0:X4} {P:A5} {yb N M i xb cb:Nat} {Y:PlR} (h:Lw w0 P w yb Y N M) (hi:Y.ps[i]?=some (xb,cb)) (a b:Int) (l:List Int) (hl:l.length<=10000000) (fa la sa:Option Addr) (fn fc lc sn sc:Nat) (hla:∀V,sA w0 V->K1 V la l) :
  Calls prog 35 #[zB yb,.agg #[zB xb,zB cb],.agg #[J 7,J a,J b,.slice fa fn fc,.slice la l.length lc,.slice sa sn sc]] w fun e w'=>e=.returned (.bool true)/\∃P2,Lw w0 P2 w' yb Y N M:=by
 obtain⟨n,xe⟩:=a3i h hi l hl;have HR:=hid xe;have yd:Hid (∀U,L0d w U->Calls prog 14 #[.slice la l.length lc] U fun e w'=>a8r l U e w'):=hid fun U hU=>tD (hla U (h.below hU).bel) hl
 have xn:=hid hla;have xy:=h.sep.pos;have xo:Hid (w0.w.heap.size<=w.heap.size):=hid h.bel.size;clear xe h hi hla;go_enter func35,ntmps35;go_wp2_with (go_at_call 14;refine (yd.out _ P8).mono ?_)
 rintro e U ⟨lb,xq,rfl,xa,xd⟩;have u0:U.cell? ⟨w.heap.size,0,none⟩=some (zB xb):=keep xd Q9 R3;have u1:U.cell? ⟨w.heap.size,1,none⟩=some (zB cb):=keep xd Q9 R3;have u4:U.cell? ⟨w.heap.size+1,4,none⟩=some (.slice la l.length lc):=keep xd R6 R3;have yh:w.heap.size+2<=U.heap.size:=by have:=xd.size;simp at this;omega
 have xz:w.heap.size < U.heap.size:=by omega
 have xt:Hid (L0d w U):=hid (Below.trans P8 (xd.mono Q9));have xk:=xa.lt lb rfl;have xf:w.heap.size<=lb:=by have:=xk.1;simp at this;omega
 have xl:lb < U.heap.size:=xk.2;have HO:=hid (E1 xa (L4c _));have xx:=hid (a2N xa);clear xa xd xk;go_wp2_with (go_at_call 62;refine (HR.out _ xt.out _ _ xx.out).mono ?_)
 rintro e w1 ⟨rfl,ye,xh,xm,xc⟩;have v1:w1.cell? ⟨w.heap.size,1,none⟩=some (zB cb):=(L0b (a:=⟨w.heap.size,1,none⟩) (xh _ xz (L1c _))).trans u1;have v4:w1.cell? ⟨w.heap.size+1,4,none⟩=some (.slice la l.length lc):=(L0b (a:=⟨w.heap.size+1,4,none⟩) (xh _ (by show w.heap.size+1 < _;omega) (by show _<=w.heap.size+1;omega))).trans u4;have yg:w.heap.size < w1.heap.size:=by omega
 have xi:w.heap.size+1 < w1.heap.size:=by omega
 have xr:Hid (w1.ownsRow 0 3 1 (.slice (zA lb) (l.length+2) xq) (l.length+2) ((l.map fun n=>J n)++[J (-7070),J (-7070)])):=hid (A6 HO.out fun b hb=>by
  obtain rfl:lb=b:=by simpa [Value.ownBlock] using hb
  exact xh lb xl xf)
 have HC:=hid xc;have yc:=hid (xn.out w1 xm);clear xc xh xm u0 u1 u4;go_wp2_with (go_at_call 63;refine (HC.out _ (L3b _ _) _ _ yc.out).mono ?_)
 rintro e w2 ⟨rfl,yf,xj,P2,hL,xp⟩;have x4:w2.cell? ⟨w.heap.size+1,4,none⟩=some (.slice la l.length lc):=(L0b (a:=⟨w.heap.size+1,4,none⟩) (xj _ xi (by show _<=w.heap.size+1;omega))).trans v4;have ya:w.heap.size+1 < w2.heap.size:=by omega
 have xu:Hid (w2.ownsRow 0 3 1 (.slice (zA lb) (l.length+2) xq) (l.length+2) ((l.map fun n=>J n)++[J (-7070),J (-7070)])):=hid (A6 xr.out fun b hb=>by
  obtain rfl:lb=b:=by simpa [Value.ownBlock] using hb
  exact xj lb R5 xf)
 have xs:=hid (xn.out w2 hL.bel);have HL:=hid hL;have xw:=hid xp;clear hL xp xj v1 v4;go_wp2_with (go_at_call 18;refine (lU (L4c _) hl xu.out xs.out).mono ?_)
 rintro e w3 ⟨rfl,xg⟩;have xv:=hid (HL.out.but xg (fun j hj=>by have:=xw.out j lb hj;omega) (by
  have:=xo.out;omega) (fun e=>by have:=xo.out;have:=e.1;omega))
 clear xg;go_wp2_with fail;go_ret;exact⟨rfl,P2,xv.out⟩
end
end Go.Proofs.YtbkmgoffiigdbaaGreatDoor
