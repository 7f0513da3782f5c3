import Derived.Test.YtbkmgoffiigdbaaGreatDoorVBc
namespace Go.Proofs.YtbkmgoffiigdbaaGreatDoor
open Go.RowKit Go.Sort Go.Proofs.Tryz
section
variable {args:List Val} {k:Nat} {x:Val}
theorem xK (R:RfR):((L5 R).map ThR.slot,(L5 R).map ThR.abs)=((Y5 R.cap (R.ths.map ThR.slot) R.abs).1,(Y5 R.cap (R.ths.map ThR.slot) R.abs).2.obs):=by
 unfold L5 Y5;split
 ·obtain ⟨h1,h2⟩:=rF (A0 R.abs) R.ths
  rw[h1,h2];rfl
 ·rfl
theorem RV.slot_some {g:PgR} {R:RfR} {t:McA} (h:RV g R t) (hfull:¬R.cap<=(A0 R.abs).length):∃j dr,bX R.cap ((L5 R).map ThR.slot) R.dr=some (j,dr):=by
 have xf:=h.i.cap.1;have xd:=wE h.i;have xg:(A0 t).length=(A0 R.abs).length:=by rw [h.v.alive,List.length_map]
 have hV:=h.v.room h.i;have xc:(F9 t).obs.length=t.obs.length:=by
  unfold F9;split
  ·exact T8 _ _
  ·rfl
 have xb:=h.cap;have xa:=hV.pick R5 R.dr;have xe:L3 (F9 t).obs≠(F9 t).obs.length:=fun c=>hfull (by have:=xd.1 c;omega)
 obtain⟨j,hj⟩:=eU (dr:=R.dr) (show 0 < (F9 t).obs.length by omega) xe;rw[xa,xc,<- xb] at hj;have e:=congrArg Prod.fst (xK R);simp only at e;rw[e];exact⟨j.1,j.2,hj⟩
section
variable {W:World} {own:Own} {mb:Nat} {g:PgR} {R:RfR} {t:McA} {fs:List FrR} {f:FrR} {a:Int} {rest:List Val}
theorem OpR.made_end (o:OpR W own mb g R t fs f k a rest args) {drop:Nat} (hd:drop=args.length) (hfull:¬R.cap<=(A0 R.abs).length) {kind:Int} {fl:List Val} {R':RfR} {sv:Value} {l:List Val} (e:jP R kind fl R') (hfr:R'.frs=fs++[{ f with loc:=l }]) :
  R'.cap=R.cap/\(R'.ths.map ThR.slot,RfR.abs { R' with frs:=fs++[{ f with loc:=l,pc:=f.pc+1,sv:=sv,stk:=f.stk.take (f.stk.length - drop)++[(2,(R.ths.length:Int))] }] })=cN R.cap (R.ths.map ThR.slot) R.abs (fs.map FrR.abs) f.abs rest kind fl/\∀b q,R'.da=some ⟨b,q,none⟩->∃q',R.da=some ⟨b,q',none⟩:=by
 obtain⟨fv,hv,da,dc,j,dr,xd,rfl,xe⟩:=e;have xa:fs++[f]=fs++[{ f with loc:=l }]:=by rw [<- o.hf];exact hfr
 have e2:f.loc=l:=by
  have:=List.append_cancel_left xa;simp only[List.cons.injEq,and_true] at this;rw[this]
 subst e2;have hr:=xK R;have xc:=congrArg Prod.fst hr;have xb:=congrArg Prod.snd hr;simp only at xc xb;unfold cN;rw[if_neg hfull,<- xc,<- xb];rw[show R.abs.dr=R.dr from rfl,xd];refine⟨rfl,Prod.ext ?_ ?_,xe⟩
 ·show (L5 R++[_]).map ThR.slot=_
  rw[List.map_append];rfl
 ·show (⟨R.st,R.out,(fs++[_]).map FrR.abs,(L5 R++[_]).map ThR.abs,dr⟩:McA)=_
  rw[o.st,List.map_append,List.map_cons,List.map_nil,o.stk,hd,List.map_append];simp[FrR.abs,RfR.abs,ThR.abs]
theorem OpR.madeP (o:OpR W own mb g R t fs f k a rest args) {kind:Int} {fl:List Val} : ∀R',jP R kind fl R'->∀b q,R'.da=some ⟨b,q,none⟩->b < W.heap.size:=fun R' e b q hq=>by
 obtain⟨fv,hv,da,dc,j,dr,xc,rfl,xb⟩:=e;obtain⟨q',xa⟩:=xb b q hq;exact (o.h.dro b q' xa).1
theorem OpR.madeF (o:OpR W own mb g R t fs f k a rest args) {kind:Int} {fl:List Val} : ∀R',jP R kind fl R'->(∃l,R'.frs=fs++[{ f with loc:=l }])/\R'.cv=R.cv/\∀b q,R'.da=some ⟨b,q,none⟩->b < W.heap.size:=fun R' e=>by
 refine⟨?_,?_,o.madeP R' e⟩
 ·obtain ⟨fv,hv,da,dc,j,dr,xa,rfl,xb⟩:=e
  exact⟨f.loc,by show R.frs=_;rw [o.hf]⟩
 ·obtain ⟨fv,hv,da,dc,j,dr,xa,rfl,xb⟩:=e
  rfl
theorem OpR.record (o:OpR W own mb g R t fs f 16 a rest []) {P:RfR->Prop} {drop:Int} {push:List Val} {to trap:Int} (hpd:∀R',P R'->∀b q,R'.da=some ⟨b,q,none⟩->b < W.heap.size)
  (hc:∀V,L0d W V->∀x:Val,Calls prog 181 #[zB mb,.agg #[J 16,J a],J (f.pc:Int),.agg #[zC x.1,J x.2]] V fun e w'=>K8 own mb g P drop push to trap V e w') :
  ∀U,L0d W U->Calls prog 139 #[zB mb,.agg #[J ((16:Nat):Int),J a],.agg #[J (f.fn:Int),J (f.pc:Int),f.lv,f.sv]] U fun e w'=>K8 own mb g P drop push to trap U e w':=by
 intro U hB;obtain⟨sa,sc,la,lc,xd,xb,_,_,hs,_⟩:=o.lists;have hb:=o.bds;rw[xd,xb];by_cases h0:f.stk.length=0
 ·rw [h0]
  exact a0H (o.h.same hB) f.fn f.pc a (fun R' h b q e=>L0a (hpd R' h b q e) hB.size) fun V hV=>hc V (hB.trans (hV.mono hB.size)) (0,0)
 ·obtain ⟨sb,rfl,xc,_,xe⟩:=hs R5
  obtain⟨m,hm⟩:∃m,f.stk.length=m+1:=⟨f.stk.length - 1,by omega⟩
  have hx:f.stk[m]?=some f.stk[m]:=L1b R5;have xa:=xe U hB m _ hx;rw[hm];exact tP (o.h.same hB) f.fn f.pc a 16 181 (.agg #[zC f.stk[m].1,J f.stk[m].2]) (L0a xc hB.size) xa.1 xa.2 R5 (by simp [fV]) (fun R' h b q e=>L0a (hpd R' h b q e) hB.size) fun V hV=>hc V (hB.trans (hV.mono hB.size)) f.stk[m]
theorem a3Q (o:OpR W own mb g R t fs f 16 a rest []):Calls prog 100 #[zB mb] W fun e w'=>G4 own mb g R (doD g R.cap 16 a (R.ths.map ThR.slot) R.abs (fs.map FrR.abs) f.abs rest []) W e w':=by
 have hb:=o.bds;have xa:B3 a 0 8=true:=o.leg;rw[E5] at xa;obtain⟨n,rfl⟩:=L5c xa.1;have xd:=o.rv.cap;have xb:=o.rv.i.cap;show Calls prog 100 _ W fun e w'=>G4 own mb g R (cN R.cap (R.ths.map ThR.slot) R.abs (fs.map FrR.abs) f.abs rest 1 (List.replicate (n:Int).toNat (0,0))) W e w'
 rw[Int.toNat_natCast];by_cases hfull:R.cap<=(A0 R.abs).length
 ·rw [cN,if_pos hfull]
  exact o.trap R4 R4 R4 R4 (o.record o.pd fun V hV x=>(pS (o.h.same hV) o.bd o.rv.rin n x f.pc R5 hfull).mono fun _ _ hd=>hd.toQ (o.h.same hV))
 ·obtain ⟨j,dr,xc⟩:=o.rv.slot_some hfull
  exact o.go R4 R4 R4 (drop:=0) (to:=f.pc+1) (push:=[(2,(R.ths.length:Int))]) (P:=jP R 1 (List.replicate n (0,0))) R5 R6 o.madeF (o.record o.madeP fun V hV x=>tV (o.h.same hV) o.bd o.rv.rin o.rv.sl n x f.pc R5 R5 R5 R5 hfull xc) (fun R' sv l e hfr=>o.made_end rfl hfull e hfr)
theorem a6l (o:OpR W own mb g R t fs f 17 a rest [x]):Calls prog 100 #[zB mb] W fun e w'=>G4 own mb g R (doD g R.cap 17 a (R.ths.map ThR.slot) R.abs (fs.map FrR.abs) f.abs rest [x]) W e w':=by
 obtain⟨sb,sc,la,lc,xf,xc,xh,hc⟩:=o.at1;have hb:=o.bds;have xd:=o.slen;simp only[List.length_cons,List.length_nil] at xd;have xe:=o.rv.cap;have xg:=o.rv.i.cap;show Calls prog 100 _ W fun e w'=>G4 own mb g R (if x.1≠1 then (R.ths.map ThR.slot,D4 R.abs 2) else if 0<=x.2/\x.2<=12 then cN R.cap (R.ths.map ThR.slot) R.abs (fs.map FrR.abs) f.abs rest 2 (List.replicate x.2.toNat (0,0)) else (R.ths.map ThR.slot,D4 R.abs 4)) W e w'
 have xa:∀{P:RfR->Prop} {drop:Int} {push:List Val} {to trap:Int},(∀R',P R'->∀b q,R'.da=some ⟨b,q,none⟩->b < W.heap.size)->(∀V,L0d W V->Calls prog 181 #[zB mb,.agg #[J 17,J a],J (f.pc:Int),.agg #[zC x.1,J x.2]] V fun e w'=>K8 own mb g P drop push to trap V e w')->∀U,L0d W U->Calls prog 139 #[zB mb,.agg #[J ((17:Nat):Int),J a],.agg #[J (f.fn:Int),J (f.pc:Int),f.lv,f.sv]] U fun e w'=>K8 own mb g P drop push to trap U e w':=fun hpd hcc U hB=>by
  rw[xf,xc];exact tP (o.h.same hB) f.fn f.pc a 17 181 _ (hc U hB).1 (hc U hB).2.1 (hc U hB).2.2 R5 (by simp [fV]) (fun R' h b q e=>L0a (hpd R' h b q e) hB.size) fun V hV=>hcc V (hB.trans (hV.mono hB.size))
 by_cases h1:x.1=1
 ·rw [if_neg (not_not_intro h1)]
  by_cases h2:0<=x.2/\x.2<=12
  ·rw [if_pos h2]
   obtain⟨n,hn⟩:=L5c h2.1;obtain rfl:x=(1,(n:Int)):=Prod.ext h1 hn;show Calls prog 100 _ W fun e w'=>G4 own mb g R (cN R.cap (R.ths.map ThR.slot) R.abs (fs.map FrR.abs) f.abs rest 2 (List.replicate (n:Int).toNat (0,0))) W e w'
   rw[Int.toNat_natCast];by_cases hfull:R.cap<=(A0 R.abs).length
   ·rw [cN,if_pos hfull]
    exact o.trap R4 R4 R4 R4 (xa o.pd fun V hV=>(qR (o.h.same hV) o.bd o.rv.rin n a f.pc R5 hfull).mono fun _ _ hd=>hd.toQ (o.h.same hV))
   ·obtain ⟨j,dr,xb⟩:=o.rv.slot_some hfull
    exact o.go R4 R4 R4 (drop:=1) (to:=f.pc+1) (push:=[(2,(R.ths.length:Int))]) (P:=jP R 2 (List.replicate n (0,0))) R5 R6 o.madeF (xa o.madeP fun V hV=>xJ (o.h.same hV) o.bd o.rv.rin o.rv.sl n a f.pc R5 R5 R5 R5 hfull xb) (fun R' sv l e hfr=>o.made_end rfl hfull e hfr)
  ·rw [if_neg h2]
   by_cases h3:x.2 < 0
   ·exact o.trap R4 R4 R4 R4 (xa o.pd fun V hV=>(tU x a f.pc h1 h3).mono fun _ _ hd=>hd.toQ (o.h.same hV))
   ·exact o.trap R4 R4 R4 R4 (xa o.pd fun V hV=>(tT x a f.pc h1 R5).mono fun _ _ hd=>hd.toQ (o.h.same hV))
 ·rw [if_pos h1]
  exact o.trap R4 R4 R4 R4 (xa o.pd fun V hV=>(qS x a f.pc h1).mono fun _ _ hd=>hd.toQ (o.h.same hV))
theorem a8i (o:OpR W own mb g R t fs f 18 a rest [x]):Calls prog 100 #[zB mb] W fun e w'=>G4 own mb g R (doD g R.cap 18 a (R.ths.map ThR.slot) R.abs (fs.map FrR.abs) f.abs rest [x]) W e w':=by
 obtain⟨sb,sc,la,lc,xf,xc,xh,hc⟩:=o.at1;have hb:=o.bds;have xd:=o.slen;simp only[List.length_cons,List.length_nil] at xd;have xe:=o.rv.cap;have xg:=o.rv.i.cap;show Calls prog 100 _ W fun e w'=>G4 own mb g R (if x.1=2 then cN R.cap (R.ths.map ThR.slot) R.abs (fs.map FrR.abs) f.abs rest 3 [x] else (R.ths.map ThR.slot,D4 R.abs 2)) W e w'
 have xa:∀{P:RfR->Prop} {drop:Int} {push:List Val} {to trap:Int},(∀R',P R'->∀b q,R'.da=some ⟨b,q,none⟩->b < W.heap.size)->(∀V,L0d W V->Calls prog 181 #[zB mb,.agg #[J 18,J a],J (f.pc:Int),.agg #[zC x.1,J x.2]] V fun e w'=>K8 own mb g P drop push to trap V e w')->∀U,L0d W U->Calls prog 139 #[zB mb,.agg #[J ((18:Nat):Int),J a],.agg #[J (f.fn:Int),J (f.pc:Int),f.lv,f.sv]] U fun e w'=>K8 own mb g P drop push to trap U e w':=fun hpd hcc U hB=>by
  rw[xf,xc];exact tP (o.h.same hB) f.fn f.pc a 18 181 _ (hc U hB).1 (hc U hB).2.1 (hc U hB).2.2 R5 (by simp [fV]) (fun R' h b q e=>L0a (hpd R' h b q e) hB.size) fun V hV=>hcc V (hB.trans (hV.mono hB.size))
 by_cases h1:x.1=2
 ·rw [if_pos h1]
  obtain⟨n,hn⟩:=L5c (o.ref (v:=x) R6 h1).1;obtain rfl:x=(2,(n:Int)):=Prod.ext h1 hn;by_cases hfull:R.cap<=(A0 R.abs).length
  ·rw [cN,if_pos hfull]
   exact o.trap R4 R4 R4 R4 (xa o.pd fun V hV=>(tW (o.h.same hV) o.bd o.rv.rin n a f.pc hfull).mono fun _ _ hd=>hd.toQ (o.h.same hV))
  ·obtain ⟨j,dr,xb⟩:=o.rv.slot_some hfull
   exact o.go R4 R4 R4 (drop:=1) (to:=f.pc+1) (push:=[(2,(R.ths.length:Int))]) (P:=jP R 3 [(2,(n:Int))]) R5 R6 o.madeF (xa o.madeP fun V hV=>a0R (o.h.same hV) o.bd o.rv.rin o.rv.sl n a f.pc R5 R5 R5 hfull xb) (fun R' sv l e hfr=>o.made_end rfl hfull e hfr)
 ·rw [if_neg h1]
  exact o.trap R4 R4 R4 R4 (xa o.pd fun V hV=>(tX x a f.pc h1).mono fun _ _ hd=>hd.toQ (o.h.same hV))
theorem a8d (o:OpR W own mb g R t fs f 27 a rest []):Calls prog 100 #[zB mb] W fun e w'=>G4 own mb g R (doD g R.cap 27 a (R.ths.map ThR.slot) R.abs (fs.map FrR.abs) f.abs rest []) W e w':=by
 have hb:=o.bds;have xa:=o.fsn;refine (a3U o.h o.hf o.fn hb.2.2.2 o.gn o.cn R5 R5 o.op).mono ?_;rintro e w' ⟨rfl,hR,hT⟩;exact⟨rfl,own,_,hR,rfl,rfl,hT,fun b q e=>⟨q,e⟩⟩
theorem a3R (o:OpR W own mb g R t fs f 15 a rest [x]):Calls prog 100 #[zB mb] W fun e w'=>G4 own mb g R (doD g R.cap 15 a (R.ths.map ThR.slot) R.abs (fs.map FrR.abs) f.abs rest [x]) W e w':=by
 have hb:=o.bds;have xe:=o.fsn;show Calls prog 100 _ W fun e w'=>G4 own mb g R (R.ths.map ThR.slot,C9 R.abs (fs.map FrR.abs) x) W e w'
 by_cases h0:fs=[]
 ·have e:C9 R.abs (fs.map FrR.abs) x=⟨1,R.out,[],R.abs.obs,R.dr⟩:=by subst h0;rfl
  rw[e];refine (mO o.h o.hf o.fn hb.2.2.2 o.gn o.cn R5 R5 o.op (st:=1) (P:=fun R'=>∃cv,R'={ R with cv:=cv,frs:=[] }) fun U hB=>?_).mono ?_
  ·refine (a0F (o.h.same hB) o.hf h0 o.stk R5).mono ?_
   rintro e w' ⟨rfl,cv,hR,hT⟩;exact⟨rfl,own,_,⟨cv,rfl⟩,hR,hT⟩
  ·rintro e w' ⟨rfl,xa,R',⟨cv,rfl⟩,hR,hT⟩
   exact⟨rfl,xa,_,hR,rfl,rfl,hT,fun b q e=>⟨q,e⟩⟩
 ·obtain ⟨xb,c,hc⟩:∃xb c,fs=xb++[c]:=⟨_,_,(List.dropLast_concat_getLast h0).symm⟩
  have xc:c∈R.frs:=by rw [o.hf,hc];simp
  have xd:=o.rv.frame o.hp xc;have e:C9 R.abs (fs.map FrR.abs) x=goA R.abs (xb.map FrR.abs) c.abs (c.pc+1) (c.stk++[x]):=by
   unfold C9;rw[hc,List.map_append,List.map_cons,List.map_nil,List.getLast?_concat,List.dropLast_concat];rfl
  rw[e];refine (mO o.h o.hf o.fn hb.2.2.2 o.gn o.cn R5 R5 o.op (st:=0) (P:=fun R'=>∃cv sv,R'={ R with cv:=cv,frs:=xb++[{ c with pc:=c.pc+1,sv:=sv,stk:=c.stk++[x] }] }) fun U hB=>?_).mono ?_
  ·refine (a5N (o.h.same hB) o.hf hc o.stk R5 R5 R5 R5).mono ?_
   rintro e w' ⟨rfl,xa,cv,sv,hR,hT⟩;exact⟨rfl,xa,_,⟨cv,sv,rfl⟩,hR,hT⟩
  ·rintro e w' ⟨rfl,xa,R',⟨cv,sv,rfl⟩,hR,hT⟩
   refine⟨rfl,xa,_,hR,rfl,Prod.ext rfl ?_,hT,fun b q e=>⟨q,e⟩⟩;show (⟨0,R.out,(xb++[_]).map FrR.abs,_,R.dr⟩:McA)=_;rw[List.map_append,List.map_cons,List.map_nil];rfl
theorem a8c (o:OpR W own mb g R t fs f 14 a rest args):Calls prog 100 #[zB mb] W fun e w'=>G4 own mb g R (doD g R.cap 14 a (R.ths.map ThR.slot) R.abs (fs.map FrR.abs) f.abs rest args) W e w':=by
 have hb:=o.bds;have xo:=o.fsn;have xl:=o.slen;have xp:R.frs.length=fs.length+1:=by rw [o.hf];simp
 have xh:=S8 o.leg rfl;have xb:(g.f a.toNat).p=args.length:=by have:=o.pops;simpa [U5] using this
 have e0:doD g R.cap 14 a (R.ths.map ThR.slot) R.abs (fs.map FrR.abs) f.abs rest args=(R.ths.map ThR.slot,aO g a R.abs (fs.map FrR.abs) f.abs rest args):=by
  unfold doD doA;rfl
 rw[e0];obtain⟨k,rfl⟩:=L5c xh.1;rw[Int.toNat_natCast] at xb;have hk:k < g.n:=by omega
 have xm:=o.hp.sized.bd hk;obtain⟨l,hl⟩:=L5c (show 0<=(g.f k).l by omega);unfold aO;by_cases hd:12<=(fs.map FrR.abs).length+1
 ·rw [if_pos hd]
  rw[List.length_map] at hd;refine (rU o.h o.hf o.fn hb.2.2.2 o.gn o.cn R5 R5 o.op (st:=5) (P:=fun R'=>R'=R) fun U hB=>?_).mono ?_
  ·rw [o.ar]
   refine (a0G (o.h.same hB) R5 R5 _).mono ?_;rintro e w' ⟨rfl,rfl⟩;exact⟨rfl,own,R,rfl,o.h.same hB,A2.refl _ _⟩
  ·rintro e w' ⟨rfl,xa,R',rfl,hR,hT⟩
   exact⟨rfl,xa,_,hR,rfl,rfl,hT,fun b q e=>⟨q,e⟩⟩
 ·rw [if_neg hd]
  rw[List.length_map] at hd;refine (rU o.h o.hf o.fn hb.2.2.2 o.gn o.cn R5 R5 o.op (st:=0) (P:=fun R'=>∃cv lv sv,R'={ R with cv:=cv,frs:=fs++[{ f with sv:=sv,stk:=rest }]++[⟨k,0,lv,zD,args++List.replicate (l - args.length) (0,0),[]⟩] }) fun U hB=>?_).mono ?_
  ·rw [o.ar]
   obtain⟨sa,sc,la,lc,xe,xk,xj,_,hs,_⟩:=o.lists;have xf:=o.h.stk fs.length f o.hfl;by_cases xc:rest.length < sc/\∃sb,sa=some ⟨sb,0,none⟩
   ·obtain ⟨xc,sb,rfl⟩:=xc
    refine (a5O (o.h.same hB) o.hf k args.length l hk o.gn xb hl R5 R5 R5 o.stk rfl R5 xe xc).mono ?_;rintro e w' ⟨rfl,xa,cv,lv,sv,hR,hT⟩;exact⟨rfl,xa,_,⟨cv,lv,sv,rfl⟩,hR,hT⟩
   ·have xi:args=[]:=by
     refine List.length_eq_zero_iff.1 (Decidable.byContradiction fun hne=>xc ⟨by omega,?_⟩);obtain⟨sb,e,_⟩:=hs R5;exact⟨sb,e⟩
    subst xi;have xd:f.stk=rest:=by have:=o.stk;simpa using this
    have xg:(g.f k).p=0:=by simpa using xb
    rcases xf.1.2 with ⟨hn,h0⟩ | ⟨gb,cap,xn,hn,_⟩
    ·refine (a3r (o.h.same hB) o.hf k l hk o.gn xg hl R5 R5 xd R5 hn (by rw [<- xd];exact List.length_eq_zero_iff.1 h0)).mono ?_
     rintro e w' ⟨rfl,xa,cv,lv,sv,hR,hT⟩;exact⟨rfl,xa,_,⟨cv,lv,sv,rfl⟩,by simpa using hR,hT⟩
    ·rw [xe] at hn
     simp only[Value.slice.injEq] at hn;refine (a3q (sb:=gb) (o.h.same hB) o.hf k l hk o.gn xg hl R5 R5 xd R5 (by rw [xe,hn.1]) ?_).mono ?_
     ·have:¬rest.length < sc:=fun hlt=>xc ⟨hlt,gb,hn.1⟩
      rw[xd] at xj;omega
     ·rintro e w' ⟨rfl,xa,cv,lv,sv,hR,hT⟩
      exact⟨rfl,xa,_,⟨cv,lv,sv,rfl⟩,by simpa using hR,hT⟩
  ·rintro e w' ⟨rfl,xa,R',⟨cv,lv,sv,rfl⟩,hR,hT⟩
   refine⟨rfl,xa,_,hR,rfl,Prod.ext rfl ?_,hT,fun b q e=>⟨q,e⟩⟩;show (⟨0,R.out,(fs++[_]++[_]).map FrR.abs,_,R.dr⟩:McA)=_;rw[Int.toNat_natCast,hl,Int.toNat_natCast];simp[FrR.abs,RfR.abs]
end
end
end Go.Proofs.YtbkmgoffiigdbaaGreatDoor
