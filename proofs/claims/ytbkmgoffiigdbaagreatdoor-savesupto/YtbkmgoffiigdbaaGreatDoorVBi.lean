import Derived.Test.YtbkmgoffiigdbaaGreatDoorVBd
import Derived.Test.YtbkmgoffiigdbaaGreatDoorVBe
import Derived.Test.YtbkmgoffiigdbaaGreatDoorVAh
import Derived.Test.YtbkmgoffiigdbaaGreatDoorVBh
namespace Go.Proofs.YtbkmgoffiigdbaaGreatDoor
open Go.RowKit Go.Sort Go.Proofs.Tryz
set_option maxHeartbeats 2000000
set_option maxRecDepth 100000
theorem xL {W:World} {mb:Nat} {sb m sc nl lc:Nat} {la:Option Addr} (fn:Nat) (x y:Val) (a:Int) (pc:Nat) (hpc:pc<=1000) (hsb:sb < W.heap.size) (x0:W.cell? ⟨sb,m*2,none⟩=some (zC x.1)) (x1:W.cell? ⟨sb,m*2+1,none⟩=some (J x.2)) (y0:W.cell? ⟨sb,(m+1)*2,none⟩=some (zC y.1)) (y1:W.cell? ⟨sb,(m+1)*2+1,none⟩=some (J y.2)) (hm:m<=1000) (op:Int) (hop:op=7\/op=8\/op=9\/op=10) {drop:Int} {push:List Val} {to trap:Int} (har:∀U,Calls prog 224 #[J op,J (pc:Int),.agg #[zC x.1,J x.2],.agg #[zC y.1,J y.2]] U fun e w'=>D2 drop push to trap U e w') :
  Calls prog 185 #[zB mb,.agg #[J op,J a],J (pc:Int),.agg #[J (fn:Int),J (pc:Int),.slice la nl lc,.slice (zA sb) (m+2) sc]] W fun e w'=>D2 drop push to trap W e w':=by
 have xm:=(fun (_:m<=1000)=>hpc) hm;obtain⟨xk,xn⟩:=x;obtain⟨yk,yn⟩:=y;simp only at x0 x1 y0 y1;obtain⟨xy,xs,ye,xt⟩:=W9 (show sb < W.heap.size by omega);have yp:IntKind.i64.wrap ((m:Int)+2 - 1)=(m:Int)+1:=by rw [Go.IntWalk.i64_in _ R5];omega
 have yt:IntKind.i64.wrap ((m:Int)+2 - 2)=(m:Int):=by rw [Go.IntWalk.i64_in _ R5];omega
 have yu:IntKind.i64.wrap (m:Int)=(m:Int):=Go.IntWalk.i64_in _ R5;have yr:((m:Int)+1).toNat=m+1:=by omega
 have yf:(m:Int)+1 < (m:Int)+2:=by omega
 have yh:(0:Int)<=(m:Int)+1:=by omega
 have xw:¬op=0:=by omega
 have yw:(op == 0)=false:=L2c.2 xw;have xj:¬op=1:=by omega
 have xa:(op == 1)=false:=L2c.2 xj;have xz:¬op=2:=by omega
 have yq:(op == 2)=false:=L2c.2 xz;have yb:¬op=3:=by omega
 have yo:(op == 3)=false:=L2c.2 yb;have ya:¬op=4:=by omega
 have yl:(op == 4)=false:=L2c.2 ya;have xq:¬op=5:=by omega
 have yg:(op == 5)=false:=L2c.2 xq;have xr:¬op=6:=by omega
 have yj:(op == 6)=false:=L2c.2 xr;have xc:¬op=11:=by omega
 have xv:(op == 11)=false:=L2c.2 xc;have xb:¬op=25:=by omega
 have yc:(op == 25)=false:=L2c.2 xb;have xd:¬op=26:=by omega
 have xl:(op == 26)=false:=L2c.2 xd;have xe:¬op=12:=by omega
 have xo:(op == 12)=false:=L2c.2 xe;have xf:¬op=13:=by omega
 have xu:(op == 13)=false:=L2c.2 xf;have xg:=hid har;clear har hop;simp only at xg;go_enter func185,ntmps185;go_wp2_with fail;go_region_with (go_at_call 224;refine (xg.out _).mono ?_;rintro e w1 ⟨pa,xi,rfl,xa,xh⟩;have yd:=hid xa;have xp:=hid xh;have d0:w1.cell? ⟨W.heap.size+1+1,0,none⟩=some (J 0):=keep xa R6 R3;have d1:w1.cell? ⟨W.heap.size+1+1,1,none⟩=some zD:=keep xa R6 R3;have d2:w1.cell? ⟨W.heap.size+1+1,2,none⟩=some (J 0):=keep xa R6 R3;have d3:w1.cell? ⟨W.heap.size+1+1,3,none⟩=some (J 0):=keep xa R6 R3;have ym:w1.frozen? ⟨W.heap.size+1+1,0,none⟩=false:=E3 xa R6 R3;have yi:w1.frozen? ⟨W.heap.size+1+1,1,none⟩=false:=E3 xa R6 R3;have yv:w1.frozen? ⟨W.heap.size+1+1,2,none⟩=false:=E3 xa R6 R3;have ys:w1.frozen? ⟨W.heap.size+1+1,3,none⟩=false:=E3 xa R6 R3;have xx:W.heap.size+1+1 < w1.heap.size:=L0a R6 xa.size;clear xa xh)
 all_goals go_wp2_with fail
 all_goals
  refine bodyPost_ret (v:=.agg #[J drop,.slice pa push.length xi,J to,J trap]) (by simp [results,results185,go_sem,d0,d1,d2,d3]) rfl ?_;exact D2.stored P4 yd.out xp.out R5 R6 _ _ _ _
section
variable {x y:Val}
section
variable {W:World} {own:Own} {mb:Nat} {g:PgR} {R:RfR} {t:McA} {fs:List FrR} {f:FrR} {a:Int} {rest:List Val}
theorem a9n (o:OpR W own mb g R t fs f 0 a rest []):Calls prog 100 #[zB mb] W fun e w'=>G4 own mb g R (doD g R.cap 0 a (R.ths.map ThR.slot) R.abs (fs.map FrR.abs) f.abs rest []) W e w':=by
 obtain⟨sa,sc,la,lc,xb,xa,_⟩:=o.lists;have hb:=o.bds;refine o.goP R4 R4 R4 0 (f.pc+1) (dI:=0) (tI:=(f.pc:Int)+1) (push:=[(1,a)]) rfl rfl R5 R6 (by rw [o.stk];simp) (o.simpleP R4 fun V hV=>?_);rw[xb,xa];exact a9i f.fn a f.pc R5 R5
theorem a9p (o:OpR W own mb g R t fs f 1 a rest []):Calls prog 100 #[zB mb] W fun e w'=>G4 own mb g R (doD g R.cap 1 a (R.ths.map ThR.slot) R.abs (fs.map FrR.abs) f.abs rest []) W e w':=by
 obtain⟨sa,sc,la,lc,xb,xa,_⟩:=o.lists;have hb:=o.bds;refine o.goP R4 R4 R4 0 (f.pc+1) (dI:=0) (tI:=(f.pc:Int)+1) (push:=[(0,0)]) rfl rfl R5 R6 (by rw [o.stk];simp) (o.simpleP R4 fun V hV=>?_);rw[xb,xa];exact a9j f.fn a f.pc R5 R5
theorem a8f (o:OpR W own mb g R t fs f 2 a rest []):Calls prog 100 #[zB mb] W fun e w'=>G4 own mb g R (doD g R.cap 2 a (R.ths.map ThR.slot) R.abs (fs.map FrR.abs) f.abs rest []) W e w':=by
 obtain⟨sa,sc,la,lc,xf,xd,_,_,_,hl⟩:=o.lists;have hb:=o.bds;have xa:B3 a 0 ((g.f f.fn).l - 1)=true:=o.leg;rw[E5] at xa;have xg:=o.hloc;obtain⟨b,rfl⟩:=L5c xa.1;have xb:b < f.loc.length:=by omega
 obtain⟨lb,rfl,xe,_,xc⟩:=hl R5;have hx:f.loc[b]?=some f.loc[b]:=L1b xb;refine o.goP R4 R4 R4 0 (f.pc+1) (dI:=0) (tI:=(f.pc:Int)+1) (push:=[f.loc[b]]) (l:=rest++[f.abs.loc.getD (b:Int).toNat (0,0)]) rfl rfl R5 R6 (by
  have e:f.abs.loc.getD (b:Int).toNat (0,0)=f.loc[b]:=by
   show f.loc.getD _ _=_;rw[Int.toNat_natCast,List.getD_eq_getElem?_getD,hx];rfl
  rw[e,o.stk];simp) (o.simpleP R4 fun V hV=>?_)
 rw[xf,xd];exact a7V f.fn b f.loc[b] f.pc R5 R5 (L0a xe hV.size) (xc V hV b _ hx).1 (xc V hV b _ hx).2 xb R5
theorem a6o (o:OpR W own mb g R t fs f 3 a rest [x]):Calls prog 100 #[zB mb] W fun e w'=>G4 own mb g R (doD g R.cap 3 a (R.ths.map ThR.slot) R.abs (fs.map FrR.abs) f.abs rest [x]) W e w':=by
 obtain⟨sb,sc,la,lc,xe,xa,xb,hc⟩:=o.at1;have hb:=o.bds;have xd:B3 a 0 ((g.f f.fn).l - 1)=true:=o.leg;rw[E5] at xd;have xg:=o.hloc;have xc:=o.slen;obtain⟨b,rfl⟩:=L5c xd.1;have xf:b < f.loc.length:=by omega
 have hx:f.loc[b]?=some f.loc[b]:=L1b xf;refine o.go R4 R4 R4 (drop:=1) (to:=f.pc+1) (push:=[]) (P:=fun R'=>R'={ R with frs:=fs++[{ f with loc:=f.loc.set b x }] }) (by rw [xc];simp) R4 (fun R' e=>?_) (o.simple R4 (fun R' e b q hq=>by subst e;exact (o.h.dro b q hq).1) fun V hV=>?_) (fun R' sv l e hfr=>?_)
 ·subst e
  exact⟨⟨_,rfl⟩,rfl,fun b q hq=>(o.h.dro b q hq).1⟩
 ·have hr:=a6c (sc:=sc) (la:=la) (lc:=lc) f.fn x b f.pc R5 (hc V hV).1 (hc V hV).2.1 (hc V hV).2.2 (by simp at xc;omega) (o.h.same hV) o.hf hx xa rfl R5 (fun k hk e=>by rw [e,hk] at xb;cases xb)
  generalize (fun R':RfR=>R'={ R with frs:=fs++[{ f with loc:=f.loc.set b x }] })=P at hr ⊢;rw[xe,xa];exact hr
 ·subst e
  have e2:f.loc.set b x=l:=by
   have:=List.append_cancel_left hfr;simp only[List.cons.injEq,and_true,FrR.mk.injEq] at this;exact this.2.2.2.2
  subst e2;refine⟨rfl,Prod.ext rfl ?_,fun b q e=>⟨q,e⟩⟩;show (⟨R.st,R.out,(fs++[_]).map FrR.abs,_,R.dr⟩:McA)=_;rw[o.st,List.map_append,List.map_cons,List.map_nil,o.stk];show _=(⟨0,R.out,fs.map FrR.abs++[⟨f.fn,f.pc+1,f.loc.set (b:Int).toNat x,rest⟩],_,R.dr⟩:McA);rw[Int.toNat_natCast];simp[FrR.abs,RfR.abs]
theorem a9l (o:OpR W own mb g R t fs f 4 a rest [x]):Calls prog 100 #[zB mb] W fun e w'=>G4 own mb g R (doD g R.cap 4 a (R.ths.map ThR.slot) R.abs (fs.map FrR.abs) f.abs rest [x]) W e w':=by
 obtain⟨sb,sc,la,lc,xc,xa,_,hc⟩:=o.at1;have hb:=o.bds;have xb:=o.slen;simp only[List.length_cons,List.length_nil] at xb;refine o.goP R4 R4 R4 0 (f.pc+1) (dI:=0) (tI:=(f.pc:Int)+1) (push:=[x]) (l:=rest++[x,x]) rfl rfl R5 R6 (by rw [o.stk];simp [List.take_of_length_le]) (o.simpleP R4 fun V hV=>?_);rw[xc,xa];exact a9h f.fn x a f.pc R5 (hc V hV).1 (hc V hV).2.1 (hc V hV).2.2 R5
theorem a9q (o:OpR W own mb g R t fs f 5 a rest [x]):Calls prog 100 #[zB mb] W fun e w'=>G4 own mb g R (doD g R.cap 5 a (R.ths.map ThR.slot) R.abs (fs.map FrR.abs) f.abs rest [x]) W e w':=by
 obtain⟨sb,sc,la,lc,xc,xa,_,hc⟩:=o.at1;have hb:=o.bds;have xb:=o.slen;simp only[List.length_cons,List.length_nil] at xb;refine o.goP R4 R4 R4 1 (f.pc+1) (dI:=1) (tI:=(f.pc:Int)+1) (push:=[]) (l:=rest) rfl rfl R5 R6 (by rw [o.stk];simp) (o.simpleP R4 fun V hV=>?_);rw[xc,xa];exact a9k f.fn x a f.pc R5 (hc V hV).1 (hc V hV).2.1 (hc V hV).2.2 R5
theorem a6m (o:OpR W own mb g R t fs f 25 a rest [x]):Calls prog 100 #[zB mb] W fun e w'=>G4 own mb g R (doD g R.cap 25 a (R.ths.map ThR.slot) R.abs (fs.map FrR.abs) f.abs rest [x]) W e w':=by
 obtain⟨sb,sc,la,lc,xc,xa,_,hc⟩:=o.at1;have hb:=o.bds;have xb:=o.slen;simp only[List.length_cons,List.length_nil] at xb;refine o.goP R4 R4 R4 1 (f.pc+1) (dI:=1) (tI:=(f.pc:Int)+1) (push:=[(1,D6 (x.1 == 2))]) (l:=rest++[(1,D6 (x.1 == 2))]) rfl rfl R5 R6 (by rw [o.stk];simp) (o.simpleP R4 fun V hV=>?_);rw[xc,xa];exact a6b f.fn x a f.pc R5 (hc V hV).1 (hc V hV).2.1 (hc V hV).2.2 R5
theorem a8h (o:OpR W own mb g R t fs f 6 a rest [x,y]):Calls prog 100 #[zB mb] W fun e w'=>G4 own mb g R (doD g R.cap 6 a (R.ths.map ThR.slot) R.abs (fs.map FrR.abs) f.abs rest [x,y]) W e w':=by
 obtain⟨sb,sc,la,lc,xc,xa,_,hc⟩:=o.at2;have hb:=o.bds;have xb:=o.slen;simp only[List.length_cons,List.length_nil] at xb;refine o.goP R4 R4 R4 2 (f.pc+1) (dI:=2) (tI:=(f.pc:Int)+1) (push:=[y,x]) (l:=rest++[y,x]) rfl rfl R5 R6 (by rw [o.stk];simp) (o.simpleP R4 fun V hV=>?_);rw[xc,xa];exact a7X f.fn x y a f.pc R5 (hc V hV).1 (hc V hV).2.1 (hc V hV).2.2.1 (hc V hV).2.2.2.1 (hc V hV).2.2.2.2 R5
theorem kX {k:Nat} {z:Int} (hk:k=7/\z=wrap64 (x.2+y.2)\/k=8/\z=wrap64 (x.2 - y.2)\/k=9/\z=wrap64 (x.2*y.2)\/k=10/\z=D6 (decide (x.2 < y.2))) (o:OpR W own mb g R t fs f k a rest [x,y]):Calls prog 100 #[zB mb] W fun e w'=>G4 own mb g R (doD g R.cap k a (R.ths.map ThR.slot) R.abs (fs.map FrR.abs) f.abs rest [x,y]) W e w':=by
 obtain⟨sb,sc,la,lc,xb,xa,_,hc⟩:=o.at2;have hb:=o.bds;have xc:=o.slen;simp only[List.length_cons,List.length_nil] at xc;rcases hk with ⟨rfl,hz⟩ | ⟨rfl,hz⟩ | ⟨rfl,hz⟩ | ⟨rfl,hz⟩
 all_goals
  show Calls prog 100 _ W fun e w'=>G4 own mb g R (R.ths.map ThR.slot,J6 R.abs (fs.map FrR.abs) f.abs rest x y _) W e w'
  rw[<- hz];by_cases h1:x.1=1/\y.1=1
  ·rw [J6,if_pos h1]
   refine o.goP R4 R4 R4 2 (f.pc+1) (dI:=2) (tI:=(f.pc:Int)+1) (push:=[(1,z)]) rfl rfl R5 R6 (by rw [o.stk];simp) (o.simpleP R4 fun V hV=>?_);rw[xb,xa];exact xL f.fn x y a f.pc R5 (hc V hV).1 (hc V hV).2.1 (hc V hV).2.2.1 (hc V hV).2.2.2.1 (hc V hV).2.2.2.2 R5 _ R4 (fun U=>by rw [h1.1,h1.2];exact a3o f.pc R5 x.2 y.2 _ z (by simp [hz]) U)
  ·rw [J6,if_neg h1]
   refine o.trap R4 R4 R4 R4 (o.simpleP R4 fun V hV=>?_);rw[xb,xa];exact xL f.fn x y a f.pc R5 (hc V hV).1 (hc V hV).2.1 (hc V hV).2.2.1 (hc V hV).2.2.2.1 (hc V hV).2.2.2.2 R5 _ R4 (fun U=>a0E _ f.pc x y U h1)
theorem a8e (o:OpR W own mb g R t fs f 12 a rest []):Calls prog 100 #[zB mb] W fun e w'=>G4 own mb g R (doD g R.cap 12 a (R.ths.map ThR.slot) R.abs (fs.map FrR.abs) f.abs rest []) W e w':=by
 obtain⟨sa,sc,la,lc,xb,xa,_⟩:=o.lists;have hb:=o.bds;have hj:=Z0 o.leg (L4a rfl);refine o.goP R4 R4 R4 0 a.toNat (dI:=0) (tI:=a) (push:=[]) (l:=rest) rfl R5 R5 R4 (by rw [o.stk];simp) (o.simpleP R4 fun V hV=>?_);rw[xb,xa];exact a7U f.fn a f.pc R5 R5
theorem a1d (o:OpR W own mb g R t fs f 13 a rest [x]):Calls prog 100 #[zB mb] W fun e w'=>G4 own mb g R (doD g R.cap 13 a (R.ths.map ThR.slot) R.abs (fs.map FrR.abs) f.abs rest [x]) W e w':=by
 obtain⟨sb,sc,la,lc,xb,xa,_,hc⟩:=o.at1;have hb:=o.bds;have xc:=o.slen;simp only[List.length_cons,List.length_nil] at xc;have hj:=Z0 o.leg (L4b rfl);show Calls prog 100 _ W fun e w'=>G4 own mb g R (R.ths.map ThR.slot,if M7 x then goA R.abs (fs.map FrR.abs) f.abs (f.pc+1) rest else goA R.abs (fs.map FrR.abs) f.abs a.toNat rest) W e w'
 by_cases h2:x.1=2
 ·rw [if_pos (show M7 x=true by simp [M7,h2])]
  refine o.goP R4 R4 R4 1 (f.pc+1) (dI:=1) (tI:=(f.pc:Int)+1) (push:=[]) (l:=rest) rfl rfl R5 R6 (by rw [o.stk];simp) (o.simpleP R4 fun V hV=>?_);rw[xb,xa];exact a3G f.fn x a f.pc R5 (hc V hV).1 (hc V hV).2.1 (hc V hV).2.2 R5 h2
 ·by_cases h3:x.2=0
  ·rw [if_neg (show ¬M7 x=true by simp [M7,h2,h3])]
   refine o.goP R4 R4 R4 1 a.toNat (dI:=1) (tI:=a) (push:=[]) (l:=rest) rfl R5 R5 R6 (by rw [o.stk];simp) (o.simpleP R4 fun V hV=>?_);rw[xb,xa];exact a0U f.fn x a f.pc R5 (hc V hV).1 (hc V hV).2.1 (hc V hV).2.2 R5 h2 h3
  ·rw [if_pos (show M7 x=true by simp [M7,h3])]
   refine o.goP R4 R4 R4 1 (f.pc+1) (dI:=1) (tI:=(f.pc:Int)+1) (push:=[]) (l:=rest) rfl rfl R5 R6 (by rw [o.stk];simp) (o.simpleP R4 fun V hV=>?_);rw[xb,xa];exact a3F f.fn x a f.pc R5 (hc V hV).1 (hc V hV).2.1 (hc V hV).2.2 R5 h2 h3
theorem a6n (o:OpR W own mb g R t fs f 26 a rest [x]):Calls prog 100 #[zB mb] W fun e w'=>G4 own mb g R (doD g R.cap 26 a (R.ths.map ThR.slot) R.abs (fs.map FrR.abs) f.abs rest [x]) W e w':=by
 obtain⟨sb,sc,la,lc,xb,xa,_,hc⟩:=o.at1;have hb:=o.bds;have xd:=o.slen;simp only[List.length_cons,List.length_nil] at xd;have xe:R.out.length<=40:=by have:=o.rv.i.out;rw [o.rv.v.out] at this;exact this
 show Calls prog 100 _ W fun e w'=>G4 own mb g R (R.ths.map ThR.slot,if x.1≠1 then D4 R.abs 2 else if 40<=R.out.length then D4 R.abs 7 else ⟨0,R.out++[x.2],fs.map FrR.abs++[⟨f.fn,f.pc+1,f.loc,rest⟩],R.abs.obs,R.dr⟩) W e w'
 by_cases h1:x.1=1
 ·rw [if_neg (not_not_intro h1)]
  by_cases h40:40<=R.out.length
  ·rw [if_pos h40]
   refine o.trap R4 R4 R4 R4 (o.simpleP R4 fun V hV=>?_);rw[xb,xa];exact qT f.fn x a f.pc R5 (hc V hV).1 (hc V hV).2.1 (hc V hV).2.2 R5 (o.h.same hV) h1 h40 R5
  ·rw [if_neg h40]
   refine o.go R4 R4 R4 (drop:=1) (to:=f.pc+1) (push:=[]) (P:=fun R'=>∃ov,R'={ R with ov:=ov,out:=R.out++[x.2] }) (by rw [xd];omega) R4 (fun R' e=>?_) (o.simple R4 (fun R' e b q hq=>by obtain ⟨ov,rfl⟩:=e;exact (o.h.dro b q hq).1) fun V hV=>?_) (fun R' sv l e hfr=>?_)
   ·obtain ⟨ov,rfl⟩:=e
    exact⟨⟨f.loc,by show R.frs=_;rw [o.hf]⟩,rfl,fun b q hq=>(o.h.dro b q hq).1⟩
   ·rw [xb,xa]
    exact xM f.fn x a f.pc R5 (hc V hV).1 (hc V hV).2.1 (hc V hV).2.2 R5 (o.h.same hV) h1 R5
   ·obtain ⟨ov,rfl⟩:=e
    have xc:fs++[f]=fs++[{ f with loc:=l }]:=by rw [<- o.hf];exact hfr
    have e2:f.loc=l:=by
     have:=List.append_cancel_left xc;simp only[List.cons.injEq,and_true] at this;rw[this]
    subst e2;refine⟨rfl,Prod.ext rfl ?_,fun b q e=>⟨q,e⟩⟩;show (⟨R.st,R.out++[x.2],(fs++[_]).map FrR.abs,_,R.dr⟩:McA)=_;rw[o.st,List.map_append,List.map_cons,List.map_nil,o.stk];simp[FrR.abs,RfR.abs]
 ·rw [if_pos h1]
  refine o.trap R4 R4 R4 R4 (o.simpleP R4 fun V hV=>?_);rw[xb,xa];exact qU f.fn x a f.pc R5 (hc V hV).1 (hc V hV).2.1 (hc V hV).2.2 R5 h1
end
end
section
variable {R:RfR} {W:World} {a:Int} {args rest:List Val} {cap k mb:Nat} {f:FrR} {fs:List FrR} {g:PgR} {own:Own} {s t:McA} {sl:List Int}
theorem a8g {x y:Val} (o:OpR W own mb g R t fs f 11 a rest [x,y]):Calls prog 100 #[zB mb] W fun e w'=>G4 own mb g R (doD g R.cap 11 a (R.ths.map ThR.slot) R.abs (fs.map FrR.abs) f.abs rest [x,y]) W e w':=by
 obtain⟨sb,sc,la,lc,xc,xa,_,hc⟩:=o.at2;have hb:=o.bds;have xb:=o.slen;simp only[List.length_cons,List.length_nil] at xb;refine o.goP R4 R4 R4 2 (f.pc+1) (dI:=2) (tI:=(f.pc:Int)+1) (push:=[(1,D6 (x.1 == y.1 && x.2 == y.2))]) (l:=rest++[(1,D6 (x.1 == y.1 && x.2 == y.2))]) rfl rfl R5 R6 (by rw [o.stk];simp) (o.simpleP R4 fun V hV=>?_);rw[xc,xa]
 exact a7W f.fn x y a f.pc R5 (hc V hV).1 (hc V hV).2.1 (hc V hV).2.2.1 (hc V hV).2.2.2.1 (hc V hV).2.2.2.2 R5
theorem a8j (o:OpR W own mb g R t fs f k a rest args) (hk:k < 28):Calls prog 100 #[zB mb] W fun e w'=>G4 own mb g R (doD g R.cap k a (R.ths.map ThR.slot) R.abs (fs.map FrR.abs) f.abs rest args) W e w':=by
 have hn:=o.pops;have xa:k=0\/k=1\/k=2\/k=3\/k=4\/k=5\/k=6\/k=7\/k=8\/k=9\/k=10\/k=11\/k=12\/k=13\/k=14\/k=15\/k=16\/k=17\/k=18\/k=19\/k=20\/k=21\/k=22\/k=23\/k=24\/k=25\/k=26\/k=27:=by omega
 rcases xa with rfl | rfl | rfl | rfl | rfl | rfl | rfl | rfl | rfl | rfl | rfl | rfl | rfl | rfl | rfl | rfl | rfl | rfl | rfl | rfl | rfl | rfl | rfl | rfl | rfl | rfl | rfl | rfl
 ·obtain rfl:=V6 hn rfl;exact a9n o
 ·obtain rfl:=V6 hn rfl;exact a9p o
 ·obtain rfl:=V6 hn rfl;exact a8f o
 ·obtain ⟨x,rfl⟩:=F8 hn rfl;exact a6o o
 ·obtain ⟨x,rfl⟩:=F8 hn rfl;exact a9l o
 ·obtain ⟨x,rfl⟩:=F8 hn rfl;exact a9q o
 ·obtain ⟨x,y,rfl⟩:=L4 hn rfl;exact a8h o
 ·obtain ⟨x,y,rfl⟩:=L4 hn rfl;exact kX (L4a ⟨rfl,rfl⟩) o
 ·obtain ⟨x,y,rfl⟩:=L4 hn rfl;exact kX (L4b (L4a ⟨rfl,rfl⟩)) o
 ·obtain ⟨x,y,rfl⟩:=L4 hn rfl;exact kX (L4b (L4b (L4a ⟨rfl,rfl⟩))) o
 ·obtain ⟨x,y,rfl⟩:=L4 hn rfl;exact kX (L4b (L4b (L4b ⟨rfl,rfl⟩))) o
 ·obtain ⟨x,y,rfl⟩:=L4 hn rfl;exact a8g o
 ·obtain rfl:=V6 hn rfl;exact a8e o
 ·obtain ⟨x,rfl⟩:=F8 hn rfl;exact a1d o
 ·exact a8c o
 ·obtain ⟨x,rfl⟩:=F8 hn rfl;exact a3R o
 ·obtain rfl:=V6 hn rfl;exact a3Q o
 ·obtain ⟨x,rfl⟩:=F8 hn rfl;exact a6l o
 ·obtain ⟨x,rfl⟩:=F8 hn rfl;exact a8i o
 ·obtain ⟨x,rfl⟩:=F8 hn rfl;exact a9m o
 ·obtain ⟨x,y,rfl⟩:=L4 hn rfl;exact a9r o
 ·obtain ⟨x,y,rfl⟩:=L4 hn rfl;exact a9P o
 ·obtain ⟨x,y,z,rfl⟩:=a1y hn rfl;exact a9s o
 ·obtain ⟨x,rfl⟩:=F8 hn rfl;exact a9o o
 ·obtain ⟨x,rfl⟩:=F8 hn rfl;exact a3S o
 ·obtain ⟨x,rfl⟩:=F8 hn rfl;exact a6m o
 ·obtain ⟨x,rfl⟩:=F8 hn rfl;exact a6n o
 ·obtain rfl:=V6 hn rfl;exact a8d o
theorem a3A : (Y5 cap sl s).1.length=sl.length:=by
 unfold Y5;split
 ·show (T6 _ _).length=_
  unfold T6;simp
 ·rfl
theorem a7k {fs:List FrA} {f:FrA} : (doD g cap k a sl s fs f rest args).1.length<=sl.length+1:=by
 have xa:∀kind fl,(cN cap sl s fs f rest kind fl).1.length<=sl.length+1:=fun kind fl=>by
  unfold cN;split
  ·exact Nat.le_succ _
  ·split
   ·exact Nat.le_succ _
   ·show ((Y5 cap sl s).1++[_]).length<=_
    rw[List.length_append,a3A];exact L1c _
 unfold doD;split
 ·exact xa _ _
 ·split
  ·exact Nat.le_succ _
  ·split
   ·exact xa _ _
   ·exact Nat.le_succ _
 ·split
  ·exact xa _ _
  ·exact Nat.le_succ _
 ·exact Nat.le_succ _
theorem a6t (h:A9 W own mb g R) (hp:N3 g) (rv:RV g R t) (hst:R.st=0) (hn:R.ths.length<=10000000000) :
  Calls prog 100 #[zB mb] W fun e w'=>e=.returned (.tuple #[])/\∃own' R',A9 w' own' mb g R'/\RV g R' (X2 g t)/\R'.cap=R.cap/\R'.ths.length<=R.ths.length+1/\A2 own W own' w'/\∀b q,R'.da=some ⟨b,q,none⟩->∃q',R.da=some ⟨b,q',none⟩:=by
 have xh:t.st=0:=by rw [rv.v.st];exact hst
 have xo:t.frs≠[]:=rv.i.run xh;have xp:R.frs≠[]:=fun e=>xo (by rw [rv.v.frs];show (R.frs.map _).map _=[];rw [e];rfl)
 obtain⟨fs,f,hf⟩:∃fs f,R.frs=fs++[f]:=⟨_,_,(List.dropLast_concat_getLast xp).symm⟩
 have xl:R.abs.frs=fs.map FrR.abs++[f.abs]:=by show R.frs.map FrR.abs=_;rw [hf];simp
 have xk:t.frs=(fs.map FrR.abs).map (G5 (sig (R.ths.map ThR.slot)))++[G5 (sig (R.ths.map ThR.slot)) f.abs]:=by rw [rv.v.frs,xl,List.map_append];rfl
 obtain⟨k,a,xe,args',hk,o,e⟩:=rv.i.opAt hp xk;have xj:(g.f f.fn).op f.pc=(k:Int):=o.op;have xi:(g.f f.fn).ar f.pc=a:=o.ar;have xf:f.stk.map (ren (sig (R.ths.map ThR.slot)))=xe++args':=o.stk;obtain⟨rest,args,hs,rfl,rfl⟩:=List.map_eq_append_iff.1 xf;have xc:U5 k (g.f a.toNat).p=args.length:=by have:=o.pops;rwa [List.length_map] at this
 obtain⟨h1,_⟩:=rv.i.top xk;obtain⟨xr,hl,_,_⟩:=h1.at hp;have xd:F5 g.n (g.f f.fn).l (g.f f.fn).n k a=true:=by
  have:F5 g.n (g.f f.fn).l (g.f f.fn).n ((g.f f.fn).op f.pc) ((g.f f.fn).ar f.pc)=true:=hl;rwa [xj,xi] at this
 have xg:(f.loc.length:Int)=(g.f f.fn).l:=by
  have:=h1.loc;have e2:(G5 (sig (R.ths.map ThR.slot)) f.abs).loc.length=f.loc.length:=by show (f.abs.loc.map _).length=_;rw [List.length_map];rfl
  rw[e2] at this;exact this
 have O:OpR W own mb g R t fs f k a rest args:=⟨h,hp,rv,hst,hf,hs,xj,xi,xc,xd,h1.fn,xg,hn⟩;refine (a8j O hk).mono ?_;rintro e' w' ⟨rfl,own',R',hR,xb,hm,hT,xq⟩;have hS:qA g t.obs.length (R.ths.map ThR.slot,R.abs)=(R'.ths.map ThR.slot,R'.abs):=by rw [a6p xl O.opAt,<- rv.cap];exact hm.symm
 have hv:=a3X hp rv.v rv.i hst;rw[hS] at hv;have xa:=a7k (g:=g) (cap:=R.cap) (sl:=R.ths.map ThR.slot) (s:=R.abs) (fs:=fs.map FrR.abs) (f:=f.abs) (rest:=rest) (args:=args) (k:=k) (a:=a);rw[<- hm] at xa;simp only[List.length_map] at xa;have xm:N6 R'.abs.obs:=by
  have:=a6x (g:=g) (cap:=R.cap) (sl:=R.ths.map ThR.slot) (s:=R.abs) (fs:=fs.map FrR.abs) (f:=f.abs) (rest:=rest) (args:=args) (k:=k) (a:=a) rv.th (fun v hv h2=>(O.ref hv h2).1) (fun e=>by
   subst e;have xn:B3 a 0 8=true:=xd;rw[E5] at xn;omega)
  rw[<- hm] at this;exact this
 refine⟨rfl,own',R',hR,⟨hv,kJ hp rv.i xh,xm,?_⟩,xb,xa,hT,xq⟩;rw[xb,tG];exact rv.cap
theorem a8b {g:PgR} {t:McA} (h:A9 W own mb g R) (hp:N3 g) (rv:RV g R t) (hn:R.ths.length<=9999990000) (fuel:Nat) (hfu:fuel<=10000) :
  Calls prog 61 #[zB mb,J (fuel:Int)] W fun e w'=>e=.returned (.tuple #[J (E9 g fuel t:Int),J 0])/\∃own' R',A9 w' own' mb g R'/\RV g R' (L8 g fuel t)/\R'.cap=R.cap/\R'.ths.length<=R.ths.length+fuel/\A2 own W own' w'/\∀b q,R'.da=some ⟨b,q,none⟩->∃q',R.da=some ⟨b,q',none⟩:=by
 refine (a5Y h fuel hfu (fun i R'=>RV g R' (L8 g i t)/\E9 g i t=i/\R'.cap=R.cap/\R'.ths.length<=R.ths.length+i/\∀b q,R'.da=some ⟨b,q,none⟩->∃q',R.da=some ⟨b,q',none⟩) ⟨rv,rfl,rfl,L1c _,fun b q e=>⟨q,e⟩⟩ fun i U own' R' hi hS h0 hR=>?_).mono ?_
 ·obtain ⟨xa,hs,hc,hl,hd⟩:=hS
  have xc:(L8 g i t).st=0:=by rw [xa.v.st];exact h0
  refine (a6t hR hp xa h0 R5).mono ?_;rintro e w' ⟨rfl,xb,xj,xe,xd,xg,xi,hT,xf⟩;refine⟨rfl,xb,xj,⟨?_,?_,by rw [xg,hc],by omega,fun b q e=>by obtain ⟨q',e'⟩:=xf b q e;exact hd b q' e'⟩,xe,hT⟩
  ·rw [lW g i t xc];exact xd
  ·have:=(pU g i 1 t).2
   rw[this,hs,E9,if_pos xc];rfl
 ·rintro e w' ⟨n,own',R',xk,rfl,⟨xa,hs,hc,hl,hd⟩,hend,hR,hT⟩
  obtain⟨d,rfl⟩:∃d,fuel=n+d:=⟨fuel - n,by omega⟩
  have xh:L8 g (n+d) t=L8 g n t/\E9 g (n+d) t=n:=by
   obtain⟨k1,k2⟩:=pU g n d t;rcases hend with he | he
   ·have:d=0:=by omega
    subst this;exact⟨rfl,hs⟩
   ·have xc:(L8 g n t).st≠0:=by rw [xa.v.st];exact he
    obtain⟨s1,s2⟩:=pW g xc d;exact⟨by rw [k1,s1],by rw [k2,s2,hs];rfl⟩
  rw[xh.1,xh.2];exact⟨rfl,own',R',hR,xa,hc,by omega,hT,hd⟩
end
end Go.Proofs.YtbkmgoffiigdbaaGreatDoor
namespace Go.Proofs.YtbkmgoffiigdbaaGreatDoor
set_option maxHeartbeats 2000000
set_option maxRecDepth 100000
open Go.RowKit Go.Sort
end Go.Proofs.YtbkmgoffiigdbaaGreatDoor
namespace Go.Proofs.YtbkmgoffiigdbaaGreatDoor
open Go.RowKit Go.Sort Go.Proofs.Tryz
set_option maxHeartbeats 2000000
set_option maxRecDepth 100000
section
variable {M M' N N' mb yb:Nat} {P P':A5} {Y:PlR} {w w':World}
theorem a8a (fuel:Int) (h:fuel < 0\/10000 < fuel):Calls prog 99 #[zB mb,J fuel] w fun e w'=>e=.returned (.tuple #[J 0,J 5])/\w'=w:=by
 have xa:B3 fuel 0 10000=false:=bA R5;go_enter func99,ntmps99;go_wp2_with (go_at_call 116;refine (C5 _ _ _ _).mono ?_;rintro e w' ⟨rfl,hw⟩;rw [hw,xa];clear hw w')
 go_ret2;exact⟨rfl,rfl⟩
theorem a7d (fuel:Int) (h:fuel < 0\/10000 < fuel):Calls prog 60 #[zB mb,J fuel] w fun e w'=>e=.returned (.tuple #[J 0,J 5])/\w'=w:=by
 have H:=hid (a8a (mb:=mb) (w:=w) fuel h);clear h;go_enter func60,ntmps60;go_wp2_with (go_at_call 99;refine H.out.mono ?_;rintro e w2 ⟨rfl,hw⟩;rw [hw];clear hw w2)
 go_ret2;exact⟨rfl,rfl⟩
structure nN (P:A5) (i xb cb N:Nat):Prop where
 ex:∃ox gx RX oc gc RC t,P (1,i)=Y3 ox xb gx RX/\P (2,i)=eY oc cb gc RC/\Is gx t RX/\C8 gx t/\N3 gx/\X6 gx gc/\RV gc RC t/\RC.ths.length<=N/\J3 t/\ArI gx
structure X4 where
 w:World
 F:Nat->Prop
structure sA (w0:X4) (w:World):Prop where
 os:w.os=w0.w.os
 tape:w.tape=w0.w.tape
 output:w.output=w0.w.output
 size:w0.w.heap.size<=w.heap.size
 block:∀b,b < w0.w.heap.size->w0.F b->w.heap[b]?=w0.w.heap[b]?
structure Lw (w0:X4) (P:A5) (w:World) (yb:Nat) (Y:PlR) (N M:Nat):Prop where
 sep:Sep P w
 p0:P (0,0)=aS yb Y
 law:jN P Y
 pair:∀i p,Y.ps[i]?=some p->nN P i p.1 p.2 N
 len:∀j,(Y.l j).length<=M
 nps:Y.ps.length<=M
 bel:sA w0 w
 lo:∀i b,(P i).B b->¬(b < w0.w.heap.size/\w0.F b)
theorem bM {w0:X4} (hb:sA w0 w) (hlo:∀i b,(P i).B b->¬(b < w0.w.heap.size/\w0.F b)) (hS:Stp P w P' w'):sA w0 w'/\∀i b,(P' i).B b->¬(b < w0.w.heap.size/\w0.F b):=by
 have hs:=hb.size;refine⟨⟨hS.os.trans hb.os,hS.tape.trans hb.tape,hS.output.trans hb.output,L5a hs hS.size,fun b hb' hF=>(hS.out b R5 fun i hi=>hlo i b hi ⟨hb',hF⟩).trans (hb.block b hb' hF)⟩,fun i b hb'=>?_⟩;rcases hS.grow i b hb' with ⟨j,hj⟩ | h
 ·exact hlo j b hj
 ·exact fun e=>by have:=e.1;omega
theorem Lw.below {w0:X4} (h:Lw w0 P w yb Y N M) (hB:L0d w w'):Lw w0 P w' yb Y N M :=
 ⟨h.sep.below hB,h.p0,h.law,h.pair,h.len,h.nps,(bM h.bel h.lo (Stp.below hB)).1,h.lo⟩
theorem Lw.play {w0:X4} (h:Lw w0 P w yb Y N M):I5 w yb Y:=by have:=h.sep.F (0,0);rw [h.p0] at this;exact this
theorem Lw.mono {w0:X4} (h:Lw w0 P w yb Y N M) (hN:N<=N') (hM:M<=M'):Lw w0 P w yb Y N' M' :=
 ⟨h.sep,h.p0,h.law,fun i p hp=>by
  obtain⟨ox,gx,RX,oc,gc,RC,t,h1,h2,h3,h4,h5,h6,h7,h8,h9⟩:=(h.pair i p hp).ex;exact⟨ox,gx,RX,oc,gc,RC,t,h1,h2,h3,h4,h5,h6,h7,by omega,h9⟩,fun j=>L5a (h.len j) hM,L5a h.nps hM,h.bel,h.lo⟩
theorem Stp.one (i:Nat × Nat) (p:I0) (h1:w'.os=w.os) (h2:w'.tape=w.tape) (h3:w'.output=w.output) (hs:w.heap.size<=w'.heap.size) (hk:∀k,k < w.heap.size->¬(P i).B k->w'.heap[k]?=w.heap[k]?) (hB:∀k,p.B k->(P i).B k\/w.heap.size<=k):Stp P w (P.put i p) w' :=
 ⟨h1,h2,h3,hs,fun b hb hn=>hk b hb (hn i),fun j b hb=>by
  by_cases e:j=i
  ·rw [e,A5.put_same] at hb
   rcases hB b hb with h | h
   ·exact L4a ⟨i,h⟩
   ·exact L4b h
  ·rw [A5.put_ne P e] at hb
   exact L4a ⟨j,hb⟩⟩
def X4.more (w0:X4) (w:World) (G:Nat->Prop):X4:=⟨w,fun b=>(b < w0.w.heap.size/\w0.F b)\/G b⟩
theorem Lw.more {w0:X4} (h:Lw w0 P w yb Y N M) (G:Nat->Prop) (hG:∀i b,(P i).B b->¬G b):Lw (w0.more w G) P w yb Y N M :=
 ⟨h.sep,h.p0,h.law,h.pair,h.len,h.nps,⟨rfl,rfl,rfl,L1c _,fun _ _ _=>rfl⟩,fun i b hb e=>by
  rcases e.2 with e | e
  ·exact h.lo i b hb e
  ·exact hG i b hb e⟩
theorem Lw.less {w0:X4} {Y':PlR} {G:Nat->Prop} (h:Lw w0 P w yb Y N M) (h':Lw (w0.more w G) P' w' yb Y' N' M'):Lw w0 P' w' yb Y' N' M'/\∀b,b < w.heap.size->G b->w'.heap[b]?=w.heap[b]?:=by
 have hs:w0.w.heap.size<=w.heap.size:=h.bel.size;have xa:w.heap.size<=w'.heap.size:=h'.bel.size;exact⟨⟨h'.sep,h'.p0,h'.law,h'.pair,h'.len,h'.nps,⟨h'.bel.os.trans h.bel.os,h'.bel.tape.trans h.bel.tape,h'.bel.output.trans h.bel.output,L5a hs xa,fun b hb hF=>(h'.bel.block b (L0a hb hs) (L4a ⟨hb,hF⟩)).trans (h.bel.block b hb hF)⟩,fun i b hb e=>h'.lo i b hb ⟨L0a e.1 hs,L4a e⟩⟩,fun b hb hg=>h'.bel.block b hb (L4b hg)⟩
end
section
variable {M N cb i mb xb yb:Nat} {P:A5} {Y:PlR} {w w':World} {w0:X4}
theorem kT {own own':Own} {g:PgR} {R R':RfR} (hT:A2 own w own' w') (hda:∀b q,R'.da=some ⟨b,q,none⟩->∃q',R.da=some ⟨b,q',none⟩) :
  (∀k,k < w.heap.size->¬(eY own mb g R).B k->w'.heap[k]?=w.heap[k]?)/\∀k,(eY own' mb g R').B k->(eY own mb g R).B k\/w.heap.size<=k:=by
 refine⟨fun k hk hn=>hT.block k hk (Decidable.byContradiction fun e=>hn (L4a e)),fun k hk=>?_⟩;by_cases hl:w.heap.size<=k
 ·exact L4b hl
 ·rcases hk with hk | hk | ⟨o,hk⟩
  ·rw [hT.old k R5] at hk;exact L4a (L4a hk)
  ·exact L4a (L4b (L4a hk))
  ·obtain ⟨q',hq⟩:=hda k o hk
   exact L4a (L4b (L4b ⟨q',hq⟩))
theorem I3 {a b:Nat} (h:a≠b) (i j:Nat):((a,i):Nat × Nat)≠(b,j):=fun e=>h (by simp only [Prod.mk.injEq] at e;exact e.1)
theorem Lw.put2 {N':Nat} {p q:I0} (h:Lw w0 P w yb Y N M) (hN:N<=N') (hi:Y.ps[i]?=some (xb,cb)) (hS:Sep ((P.put (1,i) p).put (2,i) q) w') (hT:Stp P w ((P.put (1,i) p).put (2,i) q) w') (hp:nN ((P.put (1,i) p).put (2,i) q) i xb cb N'):Lw w0 ((P.put (1,i) p).put (2,i) q) w' yb Y N' M:=by
 obtain⟨hb,xa⟩:=bM h.bel h.lo hT;refine⟨hS,?_,⟨h.law.1,fun j q nb h1 h5 hq=>?_⟩,fun j r hr=>?_,h.len,h.nps,hb,xa⟩
 ·rw [A5.put_ne _ (I3 R4 _ _),A5.put_ne _ (I3 R4 _ _)];exact h.p0
 ·rw [A5.put_ne _ (I3 R5 _ _),A5.put_ne _ (I3 R5 _ _)]
  exact h.law.2 j q nb h1 h5 hq
 ·by_cases e:j=i
  ·subst e
   rw[hi] at hr;obtain rfl:=L5b hr;exact hp
  ·obtain ⟨ox,gx,RX,oc,gc,RC,t,h1,h2,h3,h4,h5,h6,h7,h8,h9⟩:=(h.pair j r hr).ex
   have n1:((1,j):Nat × Nat)≠(1,i):=fun e'=>e (by simp only [Prod.mk.injEq] at e';exact e'.2)
   have n2:((2,j):Nat × Nat)≠(2,i):=fun e'=>e (by simp only [Prod.mk.injEq] at e';exact e'.2)
   refine⟨ox,gx,RX,oc,gc,RC,t,?_,?_,h3,h4,h5,h6,h7,by omega,h9⟩
   ·rw [A5.put_ne _ (I3 R4 _ _),A5.put_ne _ n1];exact h1
   ·rw [A5.put_ne _ n2,A5.put_ne _ (I3 R4 _ _)];exact h2
theorem a5E (h:Lw w0 P w yb Y N M) (hi:Y.ps[i]?=some (xb,cb)) (hN:N<=9999990000) (fuel:Nat) (hf:fuel<=10000) :
  ∃n:Nat,∀U,L0d w U->Calls prog 60 #[zB xb,J (fuel:Int)] U fun e w1=>e=.returned (.tuple #[J (n:Int),J 0])/\U.heap.size<=w1.heap.size/\(∀k,k < U.heap.size->w.heap.size<=k->w1.heap[k]?=U.heap[k]?) /\
   ∀V,L0d w1 V->Calls prog 61 #[zB cb,J (fuel:Int)] V fun e w2=>e=.returned (.tuple #[J (n:Int),J 0])/\∃P2,Lw w0 P2 w2 yb Y (N+fuel) M:=by
 obtain⟨ox,gx,RX,oc,gc,RC,t,h1,h2,h3,h4,h5,h6,h7,h8,h9⟩:=(h.pair i (xb,cb) hi).ex;refine⟨E9 gx fuel t,fun U hU=>?_⟩;have xm:=h.below hU;have hM:A4 U ox xb gx RX:=by have:=xm.sep.F (1,i);rw [h1] at this;exact this
 have xp:A4 w ox xb gx RX:=by have:=h.sep.F (1,i);rw [h1] at this;exact this
 have xk:=rS h5 h6 fuel h4;refine (a3L h5 h4 h3 hM fuel hf).mono ?_;rintro e w1 ⟨xd,xc,rfl,xq,xg,hT⟩;obtain⟨k1,k2⟩:=dP (R':=xc) hM hT;have xu:=xm.sep.upd (1,i) (Y3 xd xb gx xc) hT.size (by rw [h1];exact k1) xq (by rw [h1];exact k2);have xo:Stp P U (P.put (1,i) (Y3 xd xb gx xc)) w1:=Stp.one (1,i) _ hT.os hT.tape hT.output hT.size (by rw [h1];exact k1) (by rw [h1];exact k2)
 refine⟨rfl,hT.size,fun k hk hk2=>hT.block k hk ?_,fun V hV=>?_⟩
 ·cases e:ox k with
  | none=>rfl
  | some q=>have:=xp.lt k q e;omega
 ·have xl:=xu.below hV
  have hR:A9 V oc cb gc RC:=by
   have:=xl.F (2,i);rw[A5.put_ne _ (I3 R4 _ _),h2] at this;exact this
  refine (a8b hR (h6.pgOk h5) h7 R5 fuel hf).mono ?_;rintro e w2 ⟨rfl,xf,xe,xn,xh,xj,xs,xa,xr⟩;obtain⟨q1,q2⟩:=kT (g:=gc) (mb:=cb) (R:=RC) (R':=xe) xa xr;have e2:(P.put (1,i) (Y3 xd xb gx xc)) (2,i)=eY oc cb gc RC:=by rw [A5.put_ne _ (I3 R4 _ _)];exact h2
  have xt:=xl.upd (2,i) (eY xf cb gc xe) xa.size (by rw [e2];exact q1) xn (by rw [e2];exact q2);have xi:=Stp.one (P:=P.put (1,i) (Y3 xd xb gx xc)) (2,i) (eY xf cb gc xe) xa.os xa.tape xa.output xa.size (by rw [e2];exact q1) (by rw [e2];exact q2);refine⟨by rw [xk.2],_,h.put2 R5 hi xt (((Stp.below hU).trans xo).trans ((Stp.below hV).trans xi)) ⟨xd,gx,xc,xf,gc,xe,L8 gx fuel t,?_,A5.put_same _ _ _,xg,sY h5 fuel h4,h5,h6,?_,by omega,wN h5 h9.2 fuel h9.1 h4,h9.2⟩⟩
  ·rw [A5.put_ne _ (I3 R4 _ _),A5.put_same]
  ·rw [<- xk.1];exact xh
theorem a5Z {W:World} (fuel:Int) (h:fuel < 0\/10000 < fuel):Calls prog 61 #[zB mb,J fuel] W fun e w'=>e=.returned (.tuple #[J 0,J 5])/\w'=W:=by
 rcases h with h | h
 ·exact a6a fuel h
 ·exact a3E fuel h
theorem a9b (h:Lw w0 P w yb Y N M) (hi:Y.ps[i]?=some (xb,cb)) (hN:N<=9999990000) (a b:Int) (fa la sa:Option Addr) (fn fc ln lc sn sc:Nat) :
  Calls prog 35 #[zB yb,.agg #[zB xb,zB cb],.agg #[J 2,J a,J b,.slice fa fn fc,.slice la ln lc,.slice sa sn sc]] w fun e w'=>e=.returned (.bool true)/\∃P2,Lw w0 P2 w' yb Y (N+10000) M:=by
 by_cases hb:0<=b/\b<=10000
 ·obtain ⟨xc,rfl⟩:=L5c hb.1
  obtain⟨n,xd⟩:=a5E h hi hN xc R5;have HR:=hid xd;have HF:Hid (xc<=10000):=hid R5;clear xd h hi hb;go_enter func35,ntmps35;go_wp2_with (first | (go_at_call 60;refine (HR.out _ P8).mono ?_;rintro e w1 ⟨rfl,xh,xe,xa⟩;have c1:w1.cell? ⟨w.heap.size,1,none⟩=some (zB cb):=(L0b (a:=⟨w.heap.size,1,none⟩) (xe w.heap.size Q9 (L1c _))).trans R3;have c2:w1.cell? ⟨w.heap.size+1,2,none⟩=some (J (xc:Int)):=(L0b (a:=⟨w.heap.size+1,2,none⟩) (xe (w.heap.size+1) R6 R5)).trans R3;have HC:=hid (xa _ (L3b _ _));clear xa xe) | (go_at_call 61;refine HC.out.mono ?_;rintro e w2 ⟨rfl,P2,xg⟩;have HL:=hid xg;clear xg))
  go_ret;exact⟨rfl,P2,HL.out.mono (by have:=HF.out;omega) (L1c _)⟩
 ·have xf:b < 0\/10000 < b:=by omega
  have HL:=hid h;clear h hi;go_enter func35,ntmps35;go_wp2_with (first | (go_at_call 60;refine (a7d b xf).mono ?_;rintro e w1 ⟨rfl,hw⟩;rw [hw];clear hw w1) | (go_at_call 61;refine (a5Z b xf).mono ?_;rintro e w2 ⟨rfl,hw⟩;rw [hw];clear hw w2))
  go_ret;exact⟨rfl,P,(HL.out.below P8).mono R5 (L1c _)⟩
end
end Go.Proofs.YtbkmgoffiigdbaaGreatDoor
namespace Go.Proofs.YtbkmgoffiigdbaaGreatDoor
set_option maxHeartbeats 2000000
set_option maxRecDepth 100000
open Go.RowKit Go.Sort
open Go.RowKit Go.Sort
open Go.RowKit Go.Sort
end Go.Proofs.YtbkmgoffiigdbaaGreatDoor
namespace Go.Proofs.YtbkmgoffiigdbaaGreatDoor
open Go.RowKit Go.Sort Go.Proofs.Tryz
set_option maxHeartbeats 2000000
set_option maxRecDepth 100000
section
variable {M N yb:Nat} {P:A5} {Y:PlR} {w w':World} {w0:X4}
def loose (P Q:A5):A5:=fun i=>if 8<=i.1 then Q i else P i
theorem cL (P Q:A5) {i:Nat × Nat} (h:8<=i.1):loose P Q i=Q i:=if_pos h
theorem Y1 (P Q:A5) {i:Nat × Nat} (h:i.1 < 8):loose P Q i=P i:=if_neg R5
theorem Lw.loose {Q:A5} (h:Lw w0 P w yb Y N M) (hB:L0d w w') (hF:∀i,8<=i.1->(Q i).F w') (hlo:∀i b,8<=i.1->(Q i).B b->w.heap.size<=b) (hd:∀i j b,8<=i.1->8<=j.1->(Q i).B b->(Q j).B b->i=j):Lw w0 (loose P Q) w' yb Y N M:=by
 have hS:=h.sep.below hB;have xa:Sep (Proofs.YtbkmgoffiigdbaaGreatDoor.loose P Q) w':=by
  refine⟨hS.pos,fun i=>?_,fun i j b hi hj=>?_,fun i hi=>?_⟩
  ·by_cases e:8<=i.1
   ·rw [cL P Q e];exact hF i e
   ·rw [Y1 P Q R5];exact hS.F i
  ·by_cases e:8<=i.1
   ·rw [cL P Q e] at hi
    by_cases e':8<=j.1
    ·rw [cL P Q e'] at hj;exact hd i j b e e' hi hj
    ·rw [Y1 P Q R5] at hj
     have:=(P j).lt w (h.sep.F j) b hj;have:=hlo i b e hi;omega
   ·rw [Y1 P Q R5] at hi
    by_cases e':8<=j.1
    ·rw [cL P Q e'] at hj
     have:=(P i).lt w (h.sep.F i) b hi;have:=hlo j b e' hj;omega
    ·rw [Y1 P Q R5] at hj;exact h.sep.dis i j b hi hj
  ·by_cases e:8<=i.1
   ·rw [cL P Q e] at hi
    have:=hlo i 0 e hi;have:=h.sep.pos;omega
   ·rw [Y1 P Q R5] at hi;exact h.sep.z i hi
 have hT:Stp P w (Proofs.YtbkmgoffiigdbaaGreatDoor.loose P Q) w':=⟨hB.os,hB.tape,hB.output,hB.size,fun b hb _=>hB.block b hb,fun i b hb=>by
  by_cases e:8<=i.1
  ·rw [cL P Q e] at hb;exact L4b (hlo i b e hb)
  ·rw [Y1 P Q R5] at hb;exact L4a ⟨i,hb⟩⟩
 obtain⟨hb,hl⟩:=bM h.bel h.lo hT;refine⟨xa,by rw [Y1 P Q R4];exact h.p0,⟨h.law.1,fun j i nb h1 h5 hq=>?_⟩,fun i p hp=>?_,h.len,h.nps,hb,hl⟩
 ·rw [Y1 P Q (by show j+2 < 8;omega)];exact h.law.2 j i nb h1 h5 hq
 ·obtain ⟨ox,gx,RX,oc,gc,RC,t,h1,h2,h3⟩:=(h.pair i p hp).ex
  exact⟨ox,gx,RX,oc,gc,RC,t,by rw [Y1 P Q (by show 1 < 8;decide)];exact h1,by rw [Y1 P Q (by show 2 < 8;decide)];exact h2,h3⟩
theorem Lw.book {P':A5} {M':Nat} {Y':PlR} {K:Nat × Nat->Prop} (h:Lw w0 P w yb Y N M) (hS:Sep P' w') (hp:P' (0,0)=aS yb Y') (hL:jN P' Y') (hK:a4p P P' K) (hK8:∀q,K q->8<=q.1) (hps:Y'.ps=Y.ps) (hlen:∀j,(Y'.l j).length<=M') (hM:M<=M') (hT:Stp P w P' w'):Lw w0 P' w' yb Y' N M':=by
 obtain⟨hb,hl⟩:=bM h.bel h.lo hT;refine⟨hS,hp,hL,fun i p hq=>?_,hlen,by rw [hps];exact L5a h.nps hM,hb,hl⟩;rw[hps] at hq;obtain⟨ox,gx,RX,oc,gc,RC,t,h1,h2,h3⟩:=(h.pair i p hq).ex;exact⟨ox,gx,RX,oc,gc,RC,t,(hK (1,i) (L4a rfl) fun e=>by have:=hK8 _ e;simp only at this;omega).trans h1,(hK (2,i) (L4b (L4a rfl)) fun e=>by have:=hK8 _ e;simp only at this;omega).trans h2,h3⟩
end
end Go.Proofs.YtbkmgoffiigdbaaGreatDoor
namespace Go.Proofs.YtbkmgoffiigdbaaGreatDoor
set_option maxHeartbeats 2000000
set_option maxRecDepth 100000
open Go.RowKit Go.Sort
end Go.Proofs.YtbkmgoffiigdbaaGreatDoor
