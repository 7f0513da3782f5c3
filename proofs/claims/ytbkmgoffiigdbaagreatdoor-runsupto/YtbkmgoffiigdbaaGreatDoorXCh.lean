import Derived.Test.YtbkmgoffiigdbaaGreatDoorVBb
import Derived.Test.YtbkmgoffiigdbaaGreatDoorVBj
import Derived.Test.YtbkmgoffiigdbaaGreatDoorVCb
import Derived.Test.YtbkmgoffiigdbaaGreatDoorXCg
namespace Go.Proofs.YtbkmgoffiigdbaaGreatDoor
open Go.RowKit Go.Sort Go.Proofs.Tryz
set_option maxHeartbeats 4000000
set_option maxRecDepth 100000
section
variable {x y:Val}
section
variable {W:World} {own:Own} {mb:Nat} {g:PgR} {R:RfR} {t:McA} {fs:List FrR} {f:FrR} {a:Int} {rest:List Val}
theorem a6n (o:OpR W own mb g R t fs f 0 a rest []):Calls prog 100 #[.pointer (some ⟨mb,0,none⟩)] W fun e w'=>F5 own mb g R (doD g R.cap 0 a (R.ths.map ThR.slot) R.abs (fs.map FrR.abs) f.abs rest []) W e w':=by
 obtain⟨sa,sc,la,lc,xa,xb,_⟩:=o.lists;have hb:=o.bds;refine o.goP R3 R3 R3 0 (f.pc+1) (dI:=0) (tI:=(f.pc:Int)+1) (push:=[(1,a)]) rfl rfl R4 R5 (by rw [o.stk];simp) (o.simpleP R3 fun V hV=>?_);rw[xa,xb];exact a6h f.fn a f.pc R4 R4
theorem a6q (o:OpR W own mb g R t fs f 1 a rest []):Calls prog 100 #[.pointer (some ⟨mb,0,none⟩)] W fun e w'=>F5 own mb g R (doD g R.cap 1 a (R.ths.map ThR.slot) R.abs (fs.map FrR.abs) f.abs rest []) W e w':=by
 obtain⟨sa,sc,la,lc,xa,xb,_⟩:=o.lists;have hb:=o.bds;refine o.goP R3 R3 R3 0 (f.pc+1) (dI:=0) (tI:=(f.pc:Int)+1) (push:=[(0,0)]) rfl rfl R4 R5 (by rw [o.stk];simp) (o.simpleP R3 fun V hV=>?_);rw[xa,xb];exact a6i f.fn a f.pc R4 R4
theorem a5j (o:OpR W own mb g R t fs f 2 a rest []):Calls prog 100 #[.pointer (some ⟨mb,0,none⟩)] W fun e w'=>F5 own mb g R (doD g R.cap 2 a (R.ths.map ThR.slot) R.abs (fs.map FrR.abs) f.abs rest []) W e w':=by
 obtain⟨sa,sc,la,lc,xg,xf,_,_,_,hl⟩:=o.lists;have hb:=o.bds;have xb:A9 a 0 ((g.f f.fn).l - 1)=true:=o.leg;rw[E4] at xb;have xd:=o.hloc;obtain⟨b,rfl⟩:=Int.eq_ofNat_of_zero_le xb.1;have xa:b < f.loc.length:=by omega
 obtain⟨lb,rfl,xe,_,xc⟩:=hl R4;have hx:f.loc[b]?=some f.loc[b]:=L1b xa;refine o.goP R3 R3 R3 0 (f.pc+1) (dI:=0) (tI:=(f.pc:Int)+1) (push:=[f.loc[b]]) (l:=rest++[f.abs.loc.getD (b:Int).toNat (0,0)]) rfl rfl R4 R5 (by
  have e:f.abs.loc.getD (b:Int).toNat (0,0)=f.loc[b]:=by
   show f.loc.getD _ _=_;rw[Int.toNat_natCast,List.getD_eq_getElem?_getD,hx];rfl
  rw[e,o.stk];simp) (o.simpleP R3 fun V hV=>?_)
 rw[xg,xf];exact a4Y f.fn b f.loc[b] f.pc R4 R4 (L0a xe hV.size) (xc V hV b _ hx).1 (xc V hV b _ hx).2 xa R4
theorem a3C (o:OpR W own mb g R t fs f 3 a rest [x]):Calls prog 100 #[.pointer (some ⟨mb,0,none⟩)] W fun e w'=>F5 own mb g R (doD g R.cap 3 a (R.ths.map ThR.slot) R.abs (fs.map FrR.abs) f.abs rest [x]) W e w':=by
 obtain⟨sb,sc,la,lc,xf,xd,xc,hc⟩:=o.at1;have hb:=o.bds;have xb:A9 a 0 ((g.f f.fn).l - 1)=true:=o.leg;rw[E4] at xb;have xg:=o.hloc;have xa:=o.slen;obtain⟨b,rfl⟩:=Int.eq_ofNat_of_zero_le xb.1;have xe:b < f.loc.length:=by omega
 have hx:f.loc[b]?=some f.loc[b]:=L1b xe;refine o.go R3 R3 R3 (drop:=1) (to:=f.pc+1) (push:=[]) (P:=fun R'=>R'={ R with frs:=fs++[{ f with loc:=f.loc.set b x }] }) (by rw [xa];simp) R3 (fun R' e=>?_) (o.simple R3 (fun R' e b q hq=>by subst e;exact (o.h.dro b q hq).1) fun V hV=>?_) (fun R' sv l e hfr=>?_)
 ·subst e
  exact⟨⟨_,rfl⟩,rfl,fun b q hq=>(o.h.dro b q hq).1⟩
 ·have hr:=a3q (sc:=sc) (la:=la) (lc:=lc) f.fn x b f.pc R4 (hc V hV).1 (hc V hV).2.1 (hc V hV).2.2 (by simp at xa;omega) (o.h.same hV) o.hf hx xd rfl R4 (fun k hk e=>by rw [e,hk] at xc;cases xc)
  generalize (fun R':RfR=>R'={ R with frs:=fs++[{ f with loc:=f.loc.set b x }] })=P at hr ⊢;rw[xf,xd];exact hr
 ·subst e
  have e2:f.loc.set b x=l:=by
   have:=List.append_cancel_left hfr;simp only[List.cons.injEq,and_true,FrR.mk.injEq] at this;exact this.2.2.2.2
  subst e2;refine⟨rfl,Prod.ext rfl ?_,fun b q e=>⟨q,e⟩⟩;show (⟨R.st,R.out,(fs++[_]).map FrR.abs,_,R.dr⟩:McA)=_;rw[o.st,List.map_append,List.map_cons,List.map_nil,o.stk];show _=(⟨0,R.out,fs.map FrR.abs++[⟨f.fn,f.pc+1,f.loc.set (b:Int).toNat x,rest⟩],_,R.dr⟩:McA);rw[Int.toNat_natCast];simp[FrR.abs,RfR.abs]
theorem a6l (o:OpR W own mb g R t fs f 4 a rest [x]):Calls prog 100 #[.pointer (some ⟨mb,0,none⟩)] W fun e w'=>F5 own mb g R (doD g R.cap 4 a (R.ths.map ThR.slot) R.abs (fs.map FrR.abs) f.abs rest [x]) W e w':=by
 obtain⟨sb,sc,la,lc,xa,xc,_,hc⟩:=o.at1;have hb:=o.bds;have xb:=o.slen;simp only[List.length_cons,List.length_nil] at xb;refine o.goP R3 R3 R3 0 (f.pc+1) (dI:=0) (tI:=(f.pc:Int)+1) (push:=[x]) (l:=rest++[x,x]) rfl rfl R4 R5 (by rw [o.stk];simp [List.take_of_length_le]) (o.simpleP R3 fun V hV=>?_);rw[xa,xc];exact a6g f.fn x a f.pc R4 (hc V hV).1 (hc V hV).2.1 (hc V hV).2.2 R4
theorem a6r (o:OpR W own mb g R t fs f 5 a rest [x]):Calls prog 100 #[.pointer (some ⟨mb,0,none⟩)] W fun e w'=>F5 own mb g R (doD g R.cap 5 a (R.ths.map ThR.slot) R.abs (fs.map FrR.abs) f.abs rest [x]) W e w':=by
 obtain⟨sb,sc,la,lc,xa,xc,_,hc⟩:=o.at1;have hb:=o.bds;have xb:=o.slen;simp only[List.length_cons,List.length_nil] at xb;refine o.goP R3 R3 R3 1 (f.pc+1) (dI:=1) (tI:=(f.pc:Int)+1) (push:=[]) (l:=rest) rfl rfl R4 R5 (by rw [o.stk];simp) (o.simpleP R3 fun V hV=>?_);rw[xa,xc];exact a6j f.fn x a f.pc R4 (hc V hV).1 (hc V hV).2.1 (hc V hV).2.2 R4
theorem a3A (o:OpR W own mb g R t fs f 25 a rest [x]):Calls prog 100 #[.pointer (some ⟨mb,0,none⟩)] W fun e w'=>F5 own mb g R (doD g R.cap 25 a (R.ths.map ThR.slot) R.abs (fs.map FrR.abs) f.abs rest [x]) W e w':=by
 obtain⟨sb,sc,la,lc,xa,xc,_,hc⟩:=o.at1;have hb:=o.bds;have xb:=o.slen;simp only[List.length_cons,List.length_nil] at xb;refine o.goP R3 R3 R3 1 (f.pc+1) (dI:=1) (tI:=(f.pc:Int)+1) (push:=[(1,C9 (x.1 == 2))]) (l:=rest++[(1,C9 (x.1 == 2))]) rfl rfl R4 R5 (by rw [o.stk];simp) (o.simpleP R3 fun V hV=>?_);rw[xa,xc];exact a3p f.fn x a f.pc R4 (hc V hV).1 (hc V hV).2.1 (hc V hV).2.2 R4
theorem a5l (o:OpR W own mb g R t fs f 6 a rest [x,y]):Calls prog 100 #[.pointer (some ⟨mb,0,none⟩)] W fun e w'=>F5 own mb g R (doD g R.cap 6 a (R.ths.map ThR.slot) R.abs (fs.map FrR.abs) f.abs rest [x,y]) W e w':=by
 obtain⟨sb,sc,la,lc,xa,xc,_,hc⟩:=o.at2;have hb:=o.bds;have xb:=o.slen;simp only[List.length_cons,List.length_nil] at xb;refine o.goP R3 R3 R3 2 (f.pc+1) (dI:=2) (tI:=(f.pc:Int)+1) (push:=[y,x]) (l:=rest++[y,x]) rfl rfl R4 R5 (by rw [o.stk];simp) (o.simpleP R3 fun V hV=>?_);rw[xa,xc];exact a5a f.fn x y a f.pc R4 (hc V hV).1 (hc V hV).2.1 (hc V hV).2.2.1 (hc V hV).2.2.2.1 (hc V hV).2.2.2.2 R4
theorem a6k (o:OpR W own mb g R t fs f 7 a rest [x,y]):Calls prog 100 #[.pointer (some ⟨mb,0,none⟩)] W fun e w'=>F5 own mb g R (doD g R.cap 7 a (R.ths.map ThR.slot) R.abs (fs.map FrR.abs) f.abs rest [x,y]) W e w':=by
 obtain⟨sb,sc,la,lc,xa,xb,_,hc⟩:=o.at2;have hb:=o.bds;have xc:=o.slen;simp only[List.length_cons,List.length_nil] at xc;show Calls prog 100 _ W fun e w'=>F5 own mb g R (R.ths.map ThR.slot,F9 R.abs (fs.map FrR.abs) f.abs rest x y (wrap64 (x.2+y.2))) W e w'
 by_cases h1:x.1=1/\y.1=1
 ·rw [F9,if_pos h1]
  refine o.goP R3 R3 R3 2 (f.pc+1) (dI:=2) (tI:=(f.pc:Int)+1) (push:=[(1,wrap64 (x.2+y.2))]) rfl rfl R4 R5 (by rw [o.stk];simp) (o.simpleP R3 fun V hV=>?_);rw[xa,xb];exact aK f.fn x y a f.pc R4 (hc V hV).1 (hc V hV).2.1 (hc V hV).2.2.1 (hc V hV).2.2.2.1 (hc V hV).2.2.2.2 R4 7 R3 (fun U=>by rw [h1.1,h1.2];exact xE f.pc R4 x.2 y.2 U)
 ·rw [F9,if_neg h1]
  refine o.trap R3 R3 R3 R3 (o.simpleP R3 fun V hV=>?_);rw[xa,xb];exact aK f.fn x y a f.pc R4 (hc V hV).1 (hc V hV).2.1 (hc V hV).2.2.1 (hc V hV).2.2.2.1 (hc V hV).2.2.2.2 R4 7 R3 (fun U=>dD _ f.pc x y U h1)
theorem a6u (o:OpR W own mb g R t fs f 8 a rest [x,y]):Calls prog 100 #[.pointer (some ⟨mb,0,none⟩)] W fun e w'=>F5 own mb g R (doD g R.cap 8 a (R.ths.map ThR.slot) R.abs (fs.map FrR.abs) f.abs rest [x,y]) W e w':=by
 obtain⟨sb,sc,la,lc,xa,xb,_,hc⟩:=o.at2;have hb:=o.bds;have xc:=o.slen;simp only[List.length_cons,List.length_nil] at xc;show Calls prog 100 _ W fun e w'=>F5 own mb g R (R.ths.map ThR.slot,F9 R.abs (fs.map FrR.abs) f.abs rest x y (wrap64 (x.2 - y.2))) W e w'
 by_cases h1:x.1=1/\y.1=1
 ·rw [F9,if_pos h1]
  refine o.goP R3 R3 R3 2 (f.pc+1) (dI:=2) (tI:=(f.pc:Int)+1) (push:=[(1,wrap64 (x.2 - y.2))]) rfl rfl R4 R5 (by rw [o.stk];simp) (o.simpleP R3 fun V hV=>?_);rw[xa,xb];exact aK f.fn x y a f.pc R4 (hc V hV).1 (hc V hV).2.1 (hc V hV).2.2.1 (hc V hV).2.2.2.1 (hc V hV).2.2.2.2 R4 8 R3 (fun U=>by rw [h1.1,h1.2];exact xG f.pc R4 x.2 y.2 U)
 ·rw [F9,if_neg h1]
  refine o.trap R3 R3 R3 R3 (o.simpleP R3 fun V hV=>?_);rw[xa,xb];exact aK f.fn x y a f.pc R4 (hc V hV).1 (hc V hV).2.1 (hc V hV).2.2.1 (hc V hV).2.2.2.1 (hc V hV).2.2.2.2 R4 8 R3 (fun U=>dD _ f.pc x y U h1)
theorem a6p (o:OpR W own mb g R t fs f 9 a rest [x,y]):Calls prog 100 #[.pointer (some ⟨mb,0,none⟩)] W fun e w'=>F5 own mb g R (doD g R.cap 9 a (R.ths.map ThR.slot) R.abs (fs.map FrR.abs) f.abs rest [x,y]) W e w':=by
 obtain⟨sb,sc,la,lc,xa,xb,_,hc⟩:=o.at2;have hb:=o.bds;have xc:=o.slen;simp only[List.length_cons,List.length_nil] at xc;show Calls prog 100 _ W fun e w'=>F5 own mb g R (R.ths.map ThR.slot,F9 R.abs (fs.map FrR.abs) f.abs rest x y (wrap64 (x.2*y.2))) W e w'
 by_cases h1:x.1=1/\y.1=1
 ·rw [F9,if_pos h1]
  refine o.goP R3 R3 R3 2 (f.pc+1) (dI:=2) (tI:=(f.pc:Int)+1) (push:=[(1,wrap64 (x.2*y.2))]) rfl rfl R4 R5 (by rw [o.stk];simp) (o.simpleP R3 fun V hV=>?_);rw[xa,xb];exact aK f.fn x y a f.pc R4 (hc V hV).1 (hc V hV).2.1 (hc V hV).2.2.1 (hc V hV).2.2.2.1 (hc V hV).2.2.2.2 R4 9 R3 (fun U=>by rw [h1.1,h1.2];exact xF f.pc R4 x.2 y.2 U)
 ·rw [F9,if_neg h1]
  refine o.trap R3 R3 R3 R3 (o.simpleP R3 fun V hV=>?_);rw[xa,xb];exact aK f.fn x y a f.pc R4 (hc V hV).1 (hc V hV).2.1 (hc V hV).2.2.1 (hc V hV).2.2.2.1 (hc V hV).2.2.2.2 R4 9 R3 (fun U=>dD _ f.pc x y U h1)
theorem a5i (o:OpR W own mb g R t fs f 10 a rest [x,y]):Calls prog 100 #[.pointer (some ⟨mb,0,none⟩)] W fun e w'=>F5 own mb g R (doD g R.cap 10 a (R.ths.map ThR.slot) R.abs (fs.map FrR.abs) f.abs rest [x,y]) W e w':=by
 obtain⟨sb,sc,la,lc,xa,xb,_,hc⟩:=o.at2;have hb:=o.bds;have xc:=o.slen;simp only[List.length_cons,List.length_nil] at xc;show Calls prog 100 _ W fun e w'=>F5 own mb g R (R.ths.map ThR.slot,F9 R.abs (fs.map FrR.abs) f.abs rest x y (C9 (decide (x.2 < y.2)))) W e w'
 by_cases h1:x.1=1/\y.1=1
 ·rw [F9,if_pos h1]
  refine o.goP R3 R3 R3 2 (f.pc+1) (dI:=2) (tI:=(f.pc:Int)+1) (push:=[(1,C9 (decide (x.2 < y.2)))]) rfl rfl R4 R5 (by rw [o.stk];simp) (o.simpleP R3 fun V hV=>?_);rw[xa,xb];exact aK f.fn x y a f.pc R4 (hc V hV).1 (hc V hV).2.1 (hc V hV).2.2.1 (hc V hV).2.2.2.1 (hc V hV).2.2.2.2 R4 10 R3 (fun U=>by rw [h1.1,h1.2];exact tS f.pc R4 x.2 y.2 U)
 ·rw [F9,if_neg h1]
  refine o.trap R3 R3 R3 R3 (o.simpleP R3 fun V hV=>?_);rw[xa,xb];exact aK f.fn x y a f.pc R4 (hc V hV).1 (hc V hV).2.1 (hc V hV).2.2.1 (hc V hV).2.2.2.1 (hc V hV).2.2.2.2 R4 10 R3 (fun U=>dD _ f.pc x y U h1)
theorem a5h (o:OpR W own mb g R t fs f 12 a rest []):Calls prog 100 #[.pointer (some ⟨mb,0,none⟩)] W fun e w'=>F5 own mb g R (doD g R.cap 12 a (R.ths.map ThR.slot) R.abs (fs.map FrR.abs) f.abs rest []) W e w':=by
 obtain⟨sa,sc,la,lc,xa,xb,_⟩:=o.lists;have hb:=o.bds;have hj:=V2 o.leg (Or.inl rfl);refine o.goP R3 R3 R3 0 a.toNat (dI:=0) (tI:=a) (push:=[]) (l:=rest) rfl R4 R4 R3 (by rw [o.stk];simp) (o.simpleP R3 fun V hV=>?_);rw[xa,xb];exact a4X f.fn a f.pc R4 R4
theorem yD (o:OpR W own mb g R t fs f 13 a rest [x]):Calls prog 100 #[.pointer (some ⟨mb,0,none⟩)] W fun e w'=>F5 own mb g R (doD g R.cap 13 a (R.ths.map ThR.slot) R.abs (fs.map FrR.abs) f.abs rest [x]) W e w':=by
 obtain⟨sb,sc,la,lc,xa,xb,_,hc⟩:=o.at1;have hb:=o.bds;have xc:=o.slen;simp only[List.length_cons,List.length_nil] at xc;have hj:=V2 o.leg (Or.inr rfl);show Calls prog 100 _ W fun e w'=>F5 own mb g R (R.ths.map ThR.slot,if K6 x then goA R.abs (fs.map FrR.abs) f.abs (f.pc+1) rest else goA R.abs (fs.map FrR.abs) f.abs a.toNat rest) W e w'
 by_cases h2:x.1=2
 ·rw [if_pos (show K6 x=true by simp [K6,h2])]
  refine o.goP R3 R3 R3 1 (f.pc+1) (dI:=1) (tI:=(f.pc:Int)+1) (push:=[]) (l:=rest) rfl rfl R4 R5 (by rw [o.stk];simp) (o.simpleP R3 fun V hV=>?_);rw[xa,xb];exact a1p f.fn x a f.pc R4 (hc V hV).1 (hc V hV).2.1 (hc V hV).2.2 R4 h2
 ·by_cases h3:x.2=0
  ·rw [if_neg (show ¬K6 x=true by simp [K6,h2,h3])]
   refine o.goP R3 R3 R3 1 a.toNat (dI:=1) (tI:=a) (push:=[]) (l:=rest) rfl R4 R4 R5 (by rw [o.stk];simp) (o.simpleP R3 fun V hV=>?_);rw[xa,xb];exact xV f.fn x a f.pc R4 (hc V hV).1 (hc V hV).2.1 (hc V hV).2.2 R4 h2 h3
  ·rw [if_pos (show K6 x=true by simp [K6,h3])]
   refine o.goP R3 R3 R3 1 (f.pc+1) (dI:=1) (tI:=(f.pc:Int)+1) (push:=[]) (l:=rest) rfl rfl R4 R5 (by rw [o.stk];simp) (o.simpleP R3 fun V hV=>?_);rw[xa,xb];exact a1o f.fn x a f.pc R4 (hc V hV).1 (hc V hV).2.1 (hc V hV).2.2 R4 h2 h3
theorem a3B (o:OpR W own mb g R t fs f 26 a rest [x]):Calls prog 100 #[.pointer (some ⟨mb,0,none⟩)] W fun e w'=>F5 own mb g R (doD g R.cap 26 a (R.ths.map ThR.slot) R.abs (fs.map FrR.abs) f.abs rest [x]) W e w':=by
 obtain⟨sb,sc,la,lc,xb,xc,_,hc⟩:=o.at1;have hb:=o.bds;have xd:=o.slen;simp only[List.length_cons,List.length_nil] at xd;have xe:R.out.length<=40:=by have:=o.rv.i.out;rw [o.rv.v.out] at this;exact this
 show Calls prog 100 _ W fun e w'=>F5 own mb g R (R.ths.map ThR.slot,if x.1≠1 then C7 R.abs 2 else if 40<=R.out.length then C7 R.abs 7 else ⟨0,R.out++[x.2],fs.map FrR.abs++[⟨f.fn,f.pc+1,f.loc,rest⟩],R.abs.obs,R.dr⟩) W e w'
 by_cases h1:x.1=1
 ·rw [if_neg (not_not_intro h1)]
  by_cases h40:40<=R.out.length
  ·rw [if_pos h40]
   refine o.trap R3 R3 R3 R3 (o.simpleP R3 fun V hV=>?_);rw[xb,xc];exact nW f.fn x a f.pc R4 (hc V hV).1 (hc V hV).2.1 (hc V hV).2.2 R4 (o.h.same hV) h1 h40 R4
  ·rw [if_neg h40]
   refine o.go R3 R3 R3 (drop:=1) (to:=f.pc+1) (push:=[]) (P:=fun R'=>∃ov,R'={ R with ov:=ov,out:=R.out++[x.2] }) (by rw [xd];omega) R3 (fun R' e=>?_) (o.simple R3 (fun R' e b q hq=>by obtain ⟨ov,rfl⟩:=e;exact (o.h.dro b q hq).1) fun V hV=>?_) (fun R' sv l e hfr=>?_)
   ·obtain ⟨ov,rfl⟩:=e
    exact⟨⟨f.loc,by show R.frs=_;rw [o.hf]⟩,rfl,fun b q hq=>(o.h.dro b q hq).1⟩
   ·rw [xb,xc]
    exact tY f.fn x a f.pc R4 (hc V hV).1 (hc V hV).2.1 (hc V hV).2.2 R4 (o.h.same hV) h1 R4
   ·obtain ⟨ov,rfl⟩:=e
    have xa:fs++[f]=fs++[{ f with loc:=l }]:=by rw [<- o.hf];exact hfr
    have e2:f.loc=l:=by
     have:=List.append_cancel_left xa;simp only[List.cons.injEq,and_true] at this;rw[this]
    subst e2;refine⟨rfl,Prod.ext rfl ?_,fun b q e=>⟨q,e⟩⟩;show (⟨R.st,R.out++[x.2],(fs++[_]).map FrR.abs,_,R.dr⟩:McA)=_;rw[o.st,List.map_append,List.map_cons,List.map_nil,o.stk];simp[FrR.abs,RfR.abs]
 ·rw [if_pos h1]
  refine o.trap R3 R3 R3 R3 (o.simpleP R3 fun V hV=>?_);rw[xb,xc];exact nX f.fn x a f.pc R4 (hc V hV).1 (hc V hV).2.1 (hc V hV).2.2 R4 h1
end
end
section
variable {args:List Val} {k:Nat} {x:Val}
theorem tX (R:RfR):((J9 R).map ThR.slot,(J9 R).map ThR.abs)=((U4 R.cap (R.ths.map ThR.slot) R.abs).1,(U4 R.cap (R.ths.map ThR.slot) R.abs).2.obs):=by
 unfold J9 U4;split
 ·obtain ⟨h1,h2⟩:=a0f (A1 R.abs) R.ths
  rw[h1,h2];rfl
 ·rfl
theorem RV.slot_some {g:PgR} {R:RfR} {t:McA} (h:RV g R t) (hfull:¬R.cap<=(A1 R.abs).length):∃j dr,aS R.cap ((J9 R).map ThR.slot) R.dr=some (j,dr):=by
 have xf:=h.i.cap.1;have xd:=sS h.i;have xg:(A1 t).length=(A1 R.abs).length:=by rw [h.v.alive,List.length_map]
 have hV:=h.v.room h.i;have xc:(G0 t).obs.length=t.obs.length:=by
  unfold G0;split
  ·exact L4 _ _
  ·rfl
 have xb:=h.cap;have xa:=hV.pick R4 R.dr;have xe:K3 (G0 t).obs≠(G0 t).obs.length:=fun c=>hfull (by have:=xd.1 c;omega)
 obtain⟨j,hj⟩:=dA (dr:=R.dr) (show 0 < (G0 t).obs.length by omega) xe;rw[xa,xc,<- xb] at hj;have e:=congrArg Prod.fst (tX R);simp only at e;rw[e];exact⟨j.1,j.2,hj⟩
section
variable {W:World} {own:Own} {mb:Nat} {g:PgR} {R:RfR} {t:McA} {fs:List FrR} {f:FrR} {a:Int} {rest:List Val}
theorem OpR.made_end (o:OpR W own mb g R t fs f k a rest args) {drop:Nat} (hd:drop=args.length) (hfull:¬R.cap<=(A1 R.abs).length) {kind:Int} {fl:List Val} {R':RfR} {sv:Value} {l:List Val} (e:gP R kind fl R') (hfr:R'.frs=fs++[{ f with loc:=l }]) :
  R'.cap=R.cap/\(R'.ths.map ThR.slot,RfR.abs { R' with frs:=fs++[{ f with loc:=l,pc:=f.pc+1,sv:=sv,stk:=f.stk.take (f.stk.length - drop)++[(2,(R.ths.length:Int))] }] })=bK R.cap (R.ths.map ThR.slot) R.abs (fs.map FrR.abs) f.abs rest kind fl/\∀b q,R'.da=some ⟨b,q,none⟩->∃q',R.da=some ⟨b,q',none⟩:=by
 obtain⟨fv,hv,da,dc,j,dr,xe,rfl,xd⟩:=e;have xa:fs++[f]=fs++[{ f with loc:=l }]:=by rw [<- o.hf];exact hfr
 have e2:f.loc=l:=by
  have:=List.append_cancel_left xa;simp only[List.cons.injEq,and_true] at this;rw[this]
 subst e2;have hr:=tX R;have xb:=congrArg Prod.fst hr;have xc:=congrArg Prod.snd hr;simp only at xb xc;unfold bK;rw[if_neg hfull,<- xb,<- xc];rw[show R.abs.dr=R.dr from rfl,xe];refine⟨rfl,Prod.ext ?_ ?_,xd⟩
 ·show (J9 R++[_]).map ThR.slot=_
  rw[List.map_append];rfl
 ·show (⟨R.st,R.out,(fs++[_]).map FrR.abs,(J9 R++[_]).map ThR.abs,dr⟩:McA)=_
  rw[o.st,List.map_append,List.map_cons,List.map_nil,o.stk,hd,List.map_append];simp[FrR.abs,RfR.abs,ThR.abs]
theorem OpR.madeP (o:OpR W own mb g R t fs f k a rest args) {kind:Int} {fl:List Val} : ∀R',gP R kind fl R'->∀b q,R'.da=some ⟨b,q,none⟩->b < W.heap.size:=fun R' e b q hq=>by
 obtain⟨fv,hv,da,dc,j,dr,xc,rfl,xb⟩:=e;obtain⟨q',xa⟩:=xb b q hq;exact (o.h.dro b q' xa).1
theorem OpR.madeF (o:OpR W own mb g R t fs f k a rest args) {kind:Int} {fl:List Val} : ∀R',gP R kind fl R'->(∃l,R'.frs=fs++[{ f with loc:=l }])/\R'.cv=R.cv/\∀b q,R'.da=some ⟨b,q,none⟩->b < W.heap.size:=fun R' e=>by
 refine⟨?_,?_,o.madeP R' e⟩
 ·obtain ⟨fv,hv,da,dc,j,dr,xb,rfl,xa⟩:=e
  exact⟨f.loc,by show R.frs=_;rw [o.hf]⟩
 ·obtain ⟨fv,hv,da,dc,j,dr,xb,rfl,xa⟩:=e
  rfl
theorem OpR.record (o:OpR W own mb g R t fs f 16 a rest []) {P:RfR->Prop} {drop:Int} {push:List Val} {to trap:Int} (hpd:∀R',P R'->∀b q,R'.da=some ⟨b,q,none⟩->b < W.heap.size)
  (hc:∀V,Below W.heap.size W V->∀x:Val,Calls prog 181 #[.pointer (some ⟨mb,0,none⟩),.agg #[.int .i64 16,.int .i64 a],.int .i64 (f.pc:Int),.agg #[.int .u8 x.1,.int .i64 x.2]] V fun e w'=>J3 own mb g P drop push to trap V e w') :
  ∀U,Below W.heap.size W U->Calls prog 139 #[.pointer (some ⟨mb,0,none⟩),.agg #[.int .i64 ((16:Nat):Int),.int .i64 a],.agg #[.int .i64 (f.fn:Int),.int .i64 (f.pc:Int),f.lv,f.sv]] U fun e w'=>J3 own mb g P drop push to trap U e w':=by
 intro U hB;obtain⟨sa,sc,la,lc,xb,xe,_,_,hs,_⟩:=o.lists;have hb:=o.bds;rw[xb,xe];by_cases h0:f.stk.length=0
 ·rw [h0]
  exact xJ (o.h.same hB) f.fn f.pc a (fun R' h b q e=>L0a (hpd R' h b q e) hB.size) fun V hV=>hc V (hB.trans (hV.mono hB.size)) (0,0)
 ·obtain ⟨sb,rfl,xd,_,xc⟩:=hs R4
  obtain⟨m,hm⟩:∃m,f.stk.length=m+1:=⟨f.stk.length - 1,by omega⟩
  have hx:f.stk[m]?=some f.stk[m]:=L1b R4;have xa:=xc U hB m _ hx;rw[hm];exact qQ (o.h.same hB) f.fn f.pc a 16 181 (.agg #[.int .u8 f.stk[m].1,.int .i64 f.stk[m].2]) (L0a xd hB.size) xa.1 xa.2 R4 (by simp [eD]) (fun R' h b q e=>L0a (hpd R' h b q e) hB.size) fun V hV=>hc V (hB.trans (hV.mono hB.size)) f.stk[m]
theorem a1z (o:OpR W own mb g R t fs f 16 a rest []):Calls prog 100 #[.pointer (some ⟨mb,0,none⟩)] W fun e w'=>F5 own mb g R (doD g R.cap 16 a (R.ths.map ThR.slot) R.abs (fs.map FrR.abs) f.abs rest []) W e w':=by
 have hb:=o.bds;have xa:A9 a 0 8=true:=o.leg;rw[E4] at xa;obtain⟨n,rfl⟩:=Int.eq_ofNat_of_zero_le xa.1;have xb:=o.rv.cap;have xc:=o.rv.i.cap;show Calls prog 100 _ W fun e w'=>F5 own mb g R (bK R.cap (R.ths.map ThR.slot) R.abs (fs.map FrR.abs) f.abs rest 1 (List.replicate (n:Int).toNat (0,0))) W e w'
 rw[Int.toNat_natCast];by_cases hfull:R.cap<=(A1 R.abs).length
 ·rw [bK,if_pos hfull]
  exact o.trap R3 R3 R3 R3 (o.record o.pd fun V hV x=>(mT (o.h.same hV) o.bd o.rv.rin n x f.pc R4 hfull).mono fun _ _ hd=>hd.toQ (o.h.same hV))
 ·obtain ⟨j,dr,xd⟩:=o.rv.slot_some hfull
  exact o.go R3 R3 R3 (drop:=0) (to:=f.pc+1) (push:=[(2,(R.ths.length:Int))]) (P:=gP R 1 (List.replicate n (0,0))) R4 R5 o.madeF (o.record o.madeP fun V hV x=>qV (o.h.same hV) o.bd o.rv.rin o.rv.sl n x f.pc R4 R4 R4 R4 hfull xd) (fun R' sv l e hfr=>o.made_end rfl hfull e hfr)
theorem a3z (o:OpR W own mb g R t fs f 17 a rest [x]):Calls prog 100 #[.pointer (some ⟨mb,0,none⟩)] W fun e w'=>F5 own mb g R (doD g R.cap 17 a (R.ths.map ThR.slot) R.abs (fs.map FrR.abs) f.abs rest [x]) W e w':=by
 obtain⟨sb,sc,la,lc,xf,xe,xh,hc⟩:=o.at1;have hb:=o.bds;have xg:=o.slen;simp only[List.length_cons,List.length_nil] at xg;have xd:=o.rv.cap;have xc:=o.rv.i.cap;show Calls prog 100 _ W fun e w'=>F5 own mb g R (if x.1≠1 then (R.ths.map ThR.slot,C7 R.abs 2) else if 0<=x.2/\x.2<=12 then bK R.cap (R.ths.map ThR.slot) R.abs (fs.map FrR.abs) f.abs rest 2 (List.replicate x.2.toNat (0,0)) else (R.ths.map ThR.slot,C7 R.abs 4)) W e w'
 have xa:∀{P:RfR->Prop} {drop:Int} {push:List Val} {to trap:Int},(∀R',P R'->∀b q,R'.da=some ⟨b,q,none⟩->b < W.heap.size)->(∀V,Below W.heap.size W V->Calls prog 181 #[.pointer (some ⟨mb,0,none⟩),.agg #[.int .i64 17,.int .i64 a],.int .i64 (f.pc:Int),.agg #[.int .u8 x.1,.int .i64 x.2]] V fun e w'=>J3 own mb g P drop push to trap V e w')->∀U,Below W.heap.size W U->Calls prog 139 #[.pointer (some ⟨mb,0,none⟩),.agg #[.int .i64 ((17:Nat):Int),.int .i64 a],.agg #[.int .i64 (f.fn:Int),.int .i64 (f.pc:Int),f.lv,f.sv]] U fun e w'=>J3 own mb g P drop push to trap U e w':=fun hpd hcc U hB=>by
  rw[xf,xe];exact qQ (o.h.same hB) f.fn f.pc a 17 181 _ (hc U hB).1 (hc U hB).2.1 (hc U hB).2.2 R4 (by simp [eD]) (fun R' h b q e=>L0a (hpd R' h b q e) hB.size) fun V hV=>hcc V (hB.trans (hV.mono hB.size))
 by_cases h1:x.1=1
 ·rw [if_neg (not_not_intro h1)]
  by_cases h2:0<=x.2/\x.2<=12
  ·rw [if_pos h2]
   obtain⟨n,hn⟩:=Int.eq_ofNat_of_zero_le h2.1;obtain rfl:x=(1,(n:Int)):=Prod.ext h1 hn;show Calls prog 100 _ W fun e w'=>F5 own mb g R (bK R.cap (R.ths.map ThR.slot) R.abs (fs.map FrR.abs) f.abs rest 2 (List.replicate (n:Int).toNat (0,0))) W e w'
   rw[Int.toNat_natCast];by_cases hfull:R.cap<=(A1 R.abs).length
   ·rw [bK,if_pos hfull]
    exact o.trap R3 R3 R3 R3 (xa o.pd fun V hV=>(nU (o.h.same hV) o.bd o.rv.rin n a f.pc R4 hfull).mono fun _ _ hd=>hd.toQ (o.h.same hV))
   ·obtain ⟨j,dr,xb⟩:=o.rv.slot_some hfull
    exact o.go R3 R3 R3 (drop:=1) (to:=f.pc+1) (push:=[(2,(R.ths.length:Int))]) (P:=gP R 2 (List.replicate n (0,0))) R4 R5 o.madeF (xa o.madeP fun V hV=>tW (o.h.same hV) o.bd o.rv.rin o.rv.sl n a f.pc R4 R4 R4 R4 hfull xb) (fun R' sv l e hfr=>o.made_end rfl hfull e hfr)
  ·rw [if_neg h2]
   by_cases h3:x.2 < 0
   ·exact o.trap R3 R3 R3 R3 (xa o.pd fun V hV=>(qU x a f.pc h1 h3).mono fun _ _ hd=>hd.toQ (o.h.same hV))
   ·exact o.trap R3 R3 R3 R3 (xa o.pd fun V hV=>(qT x a f.pc h1 R4).mono fun _ _ hd=>hd.toQ (o.h.same hV))
 ·rw [if_pos h1]
  exact o.trap R3 R3 R3 R3 (xa o.pd fun V hV=>(nV x a f.pc h1).mono fun _ _ hd=>hd.toQ (o.h.same hV))
theorem a5m (o:OpR W own mb g R t fs f 18 a rest [x]):Calls prog 100 #[.pointer (some ⟨mb,0,none⟩)] W fun e w'=>F5 own mb g R (doD g R.cap 18 a (R.ths.map ThR.slot) R.abs (fs.map FrR.abs) f.abs rest [x]) W e w':=by
 obtain⟨sb,sc,la,lc,xf,xe,xh,hc⟩:=o.at1;have hb:=o.bds;have xg:=o.slen;simp only[List.length_cons,List.length_nil] at xg;have xd:=o.rv.cap;have xc:=o.rv.i.cap;show Calls prog 100 _ W fun e w'=>F5 own mb g R (if x.1=2 then bK R.cap (R.ths.map ThR.slot) R.abs (fs.map FrR.abs) f.abs rest 3 [x] else (R.ths.map ThR.slot,C7 R.abs 2)) W e w'
 have xa:∀{P:RfR->Prop} {drop:Int} {push:List Val} {to trap:Int},(∀R',P R'->∀b q,R'.da=some ⟨b,q,none⟩->b < W.heap.size)->(∀V,Below W.heap.size W V->Calls prog 181 #[.pointer (some ⟨mb,0,none⟩),.agg #[.int .i64 18,.int .i64 a],.int .i64 (f.pc:Int),.agg #[.int .u8 x.1,.int .i64 x.2]] V fun e w'=>J3 own mb g P drop push to trap V e w')->∀U,Below W.heap.size W U->Calls prog 139 #[.pointer (some ⟨mb,0,none⟩),.agg #[.int .i64 ((18:Nat):Int),.int .i64 a],.agg #[.int .i64 (f.fn:Int),.int .i64 (f.pc:Int),f.lv,f.sv]] U fun e w'=>J3 own mb g P drop push to trap U e w':=fun hpd hcc U hB=>by
  rw[xf,xe];exact qQ (o.h.same hB) f.fn f.pc a 18 181 _ (hc U hB).1 (hc U hB).2.1 (hc U hB).2.2 R4 (by simp [eD]) (fun R' h b q e=>L0a (hpd R' h b q e) hB.size) fun V hV=>hcc V (hB.trans (hV.mono hB.size))
 by_cases h1:x.1=2
 ·rw [if_pos h1]
  obtain⟨n,hn⟩:=Int.eq_ofNat_of_zero_le (o.ref (v:=x) R5 h1).1;obtain rfl:x=(2,(n:Int)):=Prod.ext h1 hn;by_cases hfull:R.cap<=(A1 R.abs).length
  ·rw [bK,if_pos hfull]
   exact o.trap R3 R3 R3 R3 (xa o.pd fun V hV=>(qW (o.h.same hV) o.bd o.rv.rin n a f.pc hfull).mono fun _ _ hd=>hd.toQ (o.h.same hV))
  ·obtain ⟨j,dr,xb⟩:=o.rv.slot_some hfull
   exact o.go R3 R3 R3 (drop:=1) (to:=f.pc+1) (push:=[(2,(R.ths.length:Int))]) (P:=gP R 3 [(2,(n:Int))]) R4 R5 o.madeF (xa o.madeP fun V hV=>xS (o.h.same hV) o.bd o.rv.rin o.rv.sl n a f.pc R4 R4 R4 hfull xb) (fun R' sv l e hfr=>o.made_end rfl hfull e hfr)
 ·rw [if_neg h1]
  exact o.trap R3 R3 R3 R3 (xa o.pd fun V hV=>(qX x a f.pc h1).mono fun _ _ hd=>hd.toQ (o.h.same hV))
theorem a5g (o:OpR W own mb g R t fs f 27 a rest []):Calls prog 100 #[.pointer (some ⟨mb,0,none⟩)] W fun e w'=>F5 own mb g R (doD g R.cap 27 a (R.ths.map ThR.slot) R.abs (fs.map FrR.abs) f.abs rest []) W e w':=by
 have hb:=o.bds;have xa:=o.fsn;refine (a1D o.h o.hf o.fn hb.2.2.2 o.gn o.cn R4 R4 o.op).mono ?_;rintro e w' ⟨rfl,hR,hT⟩;exact⟨rfl,own,_,hR,rfl,rfl,hT,fun b q e=>⟨q,e⟩⟩
theorem a1A (o:OpR W own mb g R t fs f 15 a rest [x]):Calls prog 100 #[.pointer (some ⟨mb,0,none⟩)] W fun e w'=>F5 own mb g R (doD g R.cap 15 a (R.ths.map ThR.slot) R.abs (fs.map FrR.abs) f.abs rest [x]) W e w':=by
 have hb:=o.bds;have xd:=o.fsn;show Calls prog 100 _ W fun e w'=>F5 own mb g R (R.ths.map ThR.slot,D2 R.abs (fs.map FrR.abs) x) W e w'
 by_cases h0:fs=[]
 ·have e:D2 R.abs (fs.map FrR.abs) x=⟨1,R.out,[],R.abs.obs,R.dr⟩:=by subst h0;rfl
  rw[e];refine (kH o.h o.hf o.fn hb.2.2.2 o.gn o.cn R4 R4 o.op (st:=1) (P:=fun R'=>∃cv,R'={ R with cv:=cv,frs:=[] }) fun U hB=>?_).mono ?_
  ·refine (xH (o.h.same hB) o.hf h0 o.stk R4).mono ?_
   rintro e w' ⟨rfl,cv,hR,hT⟩;exact⟨rfl,own,_,⟨cv,rfl⟩,hR,hT⟩
  ·rintro e w' ⟨rfl,xa,R',⟨cv,rfl⟩,hR,hT⟩
   exact⟨rfl,xa,_,hR,rfl,rfl,hT,fun b q e=>⟨q,e⟩⟩
 ·obtain ⟨xb,c,hc⟩:∃xb c,fs=xb++[c]:=⟨_,_,(List.dropLast_concat_getLast h0).symm⟩
  have xc:c∈R.frs:=by rw [o.hf,hc];simp
  have xe:=o.rv.frame o.hp xc;have e:D2 R.abs (fs.map FrR.abs) x=goA R.abs (xb.map FrR.abs) c.abs (c.pc+1) (c.stk++[x]):=by
   unfold D2;rw[hc,List.map_append,List.map_cons,List.map_nil,List.getLast?_concat,List.dropLast_concat];rfl
  rw[e];refine (kH o.h o.hf o.fn hb.2.2.2 o.gn o.cn R4 R4 o.op (st:=0) (P:=fun R'=>∃cv sv,R'={ R with cv:=cv,frs:=xb++[{ c with pc:=c.pc+1,sv:=sv,stk:=c.stk++[x] }] }) fun U hB=>?_).mono ?_
  ·refine (a3e (o.h.same hB) o.hf hc o.stk R4 R4 R4 R4).mono ?_
   rintro e w' ⟨rfl,xa,cv,sv,hR,hT⟩;exact⟨rfl,xa,_,⟨cv,sv,rfl⟩,hR,hT⟩
  ·rintro e w' ⟨rfl,xa,R',⟨cv,sv,rfl⟩,hR,hT⟩
   refine⟨rfl,xa,_,hR,rfl,Prod.ext rfl ?_,hT,fun b q e=>⟨q,e⟩⟩;show (⟨0,R.out,(xb++[_]).map FrR.abs,_,R.dr⟩:McA)=_;rw[List.map_append,List.map_cons,List.map_nil];rfl
theorem a5f (o:OpR W own mb g R t fs f 14 a rest args):Calls prog 100 #[.pointer (some ⟨mb,0,none⟩)] W fun e w'=>F5 own mb g R (doD g R.cap 14 a (R.ths.map ThR.slot) R.abs (fs.map FrR.abs) f.abs rest args) W e w':=by
 have hb:=o.bds;have xo:=o.fsn;have xp:=o.slen;have xk:R.frs.length=fs.length+1:=by rw [o.hf];simp
 have xi:=N1 o.leg rfl;have xc:(g.f a.toNat).p=args.length:=by have:=o.pops;simpa [N7] using this
 have e0:doD g R.cap 14 a (R.ths.map ThR.slot) R.abs (fs.map FrR.abs) f.abs rest args=(R.ths.map ThR.slot,V8 g a R.abs (fs.map FrR.abs) f.abs rest args):=by
  unfold doD doA;rfl
 rw[e0];obtain⟨k,rfl⟩:=Int.eq_ofNat_of_zero_le xi.1;rw[Int.toNat_natCast] at xc;have hk:k < g.n:=by omega
 have xl:=o.hp.sized.bd hk;obtain⟨l,hl⟩:=Int.eq_ofNat_of_zero_le (show 0<=(g.f k).l by omega);unfold V8;by_cases hd:12<=(fs.map FrR.abs).length+1
 ·rw [if_pos hd]
  rw[List.length_map] at hd;refine (oX o.h o.hf o.fn hb.2.2.2 o.gn o.cn R4 R4 o.op (st:=5) (P:=fun R'=>R'=R) fun U hB=>?_).mono ?_
  ·rw [o.ar]
   refine (xI (o.h.same hB) R4 R4 _).mono ?_;rintro e w' ⟨rfl,rfl⟩;exact⟨rfl,own,R,rfl,o.h.same hB,A2.refl _ _⟩
  ·rintro e w' ⟨rfl,xa,R',rfl,hR,hT⟩
   exact⟨rfl,xa,_,hR,rfl,rfl,hT,fun b q e=>⟨q,e⟩⟩
 ·rw [if_neg hd]
  rw[List.length_map] at hd;refine (oX o.h o.hf o.fn hb.2.2.2 o.gn o.cn R4 R4 o.op (st:=0) (P:=fun R'=>∃cv lv sv,R'={ R with cv:=cv,frs:=fs++[{ f with sv:=sv,stk:=rest }]++[⟨k,0,lv,.slice none 0 0,args++List.replicate (l - args.length) (0,0),[]⟩] }) fun U hB=>?_).mono ?_
  ·rw [o.ar]
   obtain⟨sa,sc,la,lc,xf,xm,xj,_,hs,_⟩:=o.lists;have xe:=o.h.stk fs.length f o.hfl;by_cases xb:rest.length < sc/\∃sb,sa=some ⟨sb,0,none⟩
   ·obtain ⟨xb,sb,rfl⟩:=xb
    refine (a3f (o.h.same hB) o.hf k args.length l hk o.gn xc hl R4 R4 R4 o.stk rfl R4 xf xb).mono ?_;rintro e w' ⟨rfl,xa,cv,lv,sv,hR,hT⟩;exact⟨rfl,xa,_,⟨cv,lv,sv,rfl⟩,hR,hT⟩
   ·have xh:args=[]:=by
     refine List.length_eq_zero_iff.1 (Decidable.byContradiction fun hne=>xb ⟨by omega,?_⟩);obtain⟨sb,e,_⟩:=hs R4;exact⟨sb,e⟩
    subst xh;have xd:f.stk=rest:=by have:=o.stk;simpa using this
    have xg:(g.f k).p=0:=by simpa using xc
    rcases xe.1.2 with ⟨hn,h0⟩ | ⟨gb,cap,xn,hn,_⟩
    ·refine (a1c (o.h.same hB) o.hf k l hk o.gn xg hl R4 R4 xd R4 hn (by rw [<- xd];exact List.length_eq_zero_iff.1 h0)).mono ?_
     rintro e w' ⟨rfl,xa,cv,lv,sv,hR,hT⟩;exact⟨rfl,xa,_,⟨cv,lv,sv,rfl⟩,by simpa using hR,hT⟩
    ·rw [xf] at hn
     simp only[Value.slice.injEq] at hn;refine (a1b (sb:=gb) (o.h.same hB) o.hf k l hk o.gn xg hl R4 R4 xd R4 (by rw [xf,hn.1]) ?_).mono ?_
     ·have:¬rest.length < sc:=fun hlt=>xb ⟨hlt,gb,hn.1⟩
      rw[xd] at xj;omega
     ·rintro e w' ⟨rfl,xa,cv,lv,sv,hR,hT⟩
      exact⟨rfl,xa,_,⟨cv,lv,sv,rfl⟩,by simpa using hR,hT⟩
  ·rintro e w' ⟨rfl,xa,R',⟨cv,lv,sv,rfl⟩,hR,hT⟩
   refine⟨rfl,xa,_,hR,rfl,Prod.ext rfl ?_,hT,fun b q e=>⟨q,e⟩⟩;show (⟨0,R.out,(fs++[_]++[_]).map FrR.abs,_,R.dr⟩:McA)=_;rw[Int.toNat_natCast,hl,Int.toNat_natCast];simp[FrR.abs,RfR.abs]
end
end
section
variable {R:RfR} {W:World} {a:Int} {args rest:List Val} {cap k mb:Nat} {f:FrR} {fs:List FrR} {g:PgR} {own:Own} {s t:McA} {sl:List Int}
theorem a5k {x y:Val} (o:OpR W own mb g R t fs f 11 a rest [x,y]):Calls prog 100 #[.pointer (some ⟨mb,0,none⟩)] W fun e w'=>F5 own mb g R (doD g R.cap 11 a (R.ths.map ThR.slot) R.abs (fs.map FrR.abs) f.abs rest [x,y]) W e w':=by
 obtain⟨sb,sc,la,lc,xa,xc,_,hc⟩:=o.at2;have hb:=o.bds;have xb:=o.slen;simp only[List.length_cons,List.length_nil] at xb;refine o.goP R3 R3 R3 2 (f.pc+1) (dI:=2) (tI:=(f.pc:Int)+1) (push:=[(1,C9 (x.1 == y.1 && x.2 == y.2))]) (l:=rest++[(1,C9 (x.1 == y.1 && x.2 == y.2))]) rfl rfl R4 R5 (by rw [o.stk];simp) (o.simpleP R3 fun V hV=>?_);rw[xa,xc]
 exact a4Z f.fn x y a f.pc R4 (hc V hV).1 (hc V hV).2.1 (hc V hV).2.2.1 (hc V hV).2.2.2.1 (hc V hV).2.2.2.2 R4
theorem a5n (o:OpR W own mb g R t fs f k a rest args) (hk:k < 28):Calls prog 100 #[.pointer (some ⟨mb,0,none⟩)] W fun e w'=>F5 own mb g R (doD g R.cap k a (R.ths.map ThR.slot) R.abs (fs.map FrR.abs) f.abs rest args) W e w':=by
 have hn:=o.pops;have xa:k=0\/k=1\/k=2\/k=3\/k=4\/k=5\/k=6\/k=7\/k=8\/k=9\/k=10\/k=11\/k=12\/k=13\/k=14\/k=15\/k=16\/k=17\/k=18\/k=19\/k=20\/k=21\/k=22\/k=23\/k=24\/k=25\/k=26\/k=27:=by omega
 rcases xa with rfl | rfl | rfl | rfl | rfl | rfl | rfl | rfl | rfl | rfl | rfl | rfl | rfl | rfl | rfl | rfl | rfl | rfl | rfl | rfl | rfl | rfl | rfl | rfl | rfl | rfl | rfl | rfl
 ·obtain rfl:=O3 hn rfl;exact a6n o
 ·obtain rfl:=O3 hn rfl;exact a6q o
 ·obtain rfl:=O3 hn rfl;exact a5j o
 ·obtain ⟨x,rfl⟩:=F7 hn rfl;exact a3C o
 ·obtain ⟨x,rfl⟩:=F7 hn rfl;exact a6l o
 ·obtain ⟨x,rfl⟩:=F7 hn rfl;exact a6r o
 ·obtain ⟨x,y,rfl⟩:=J8 hn rfl;exact a5l o
 ·obtain ⟨x,y,rfl⟩:=J8 hn rfl;exact a6k o
 ·obtain ⟨x,y,rfl⟩:=J8 hn rfl;exact a6u o
 ·obtain ⟨x,y,rfl⟩:=J8 hn rfl;exact a6p o
 ·obtain ⟨x,y,rfl⟩:=J8 hn rfl;exact a5i o
 ·obtain ⟨x,y,rfl⟩:=J8 hn rfl;exact a5k o
 ·obtain rfl:=O3 hn rfl;exact a5h o
 ·obtain ⟨x,rfl⟩:=F7 hn rfl;exact yD o
 ·exact a5f o
 ·obtain ⟨x,rfl⟩:=F7 hn rfl;exact a1A o
 ·obtain rfl:=O3 hn rfl;exact a1z o
 ·obtain ⟨x,rfl⟩:=F7 hn rfl;exact a3z o
 ·obtain ⟨x,rfl⟩:=F7 hn rfl;exact a5m o
 ·obtain ⟨x,rfl⟩:=F7 hn rfl;exact a6m o
 ·obtain ⟨x,y,rfl⟩:=J8 hn rfl;exact a6s o
 ·obtain ⟨x,y,rfl⟩:=J8 hn rfl;exact a6S o
 ·obtain ⟨x,y,z,rfl⟩:=yY hn rfl;exact a6t o
 ·obtain ⟨x,rfl⟩:=F7 hn rfl;exact a6o o
 ·obtain ⟨x,rfl⟩:=F7 hn rfl;exact a1B o
 ·obtain ⟨x,rfl⟩:=F7 hn rfl;exact a3A o
 ·obtain ⟨x,rfl⟩:=F7 hn rfl;exact a3B o
 ·obtain rfl:=O3 hn rfl;exact a5g o
theorem a1j : (U4 cap sl s).1.length=sl.length:=by
 unfold U4;split
 ·show (N3 _ _).length=_
  unfold N3;simp
 ·rfl
theorem a4y {fs:List FrA} {f:FrA} : (doD g cap k a sl s fs f rest args).1.length<=sl.length+1:=by
 have xa:∀kind fl,(bK cap sl s fs f rest kind fl).1.length<=sl.length+1:=fun kind fl=>by
  unfold bK;split
  ·exact Nat.le_succ _
  ·split
   ·exact Nat.le_succ _
   ·show ((U4 cap sl s).1++[_]).length<=_
    rw[List.length_append,a1j];exact L1c _
 unfold doD;split
 ·exact xa _ _
 ·split
  ·exact Nat.le_succ _
  ·split
   ·exact xa _ _
   ·exact Nat.le_succ _
 ·split
  ·exact xa _ _
  ·exact Nat.le_succ _
 ·exact Nat.le_succ _
theorem a3G (h:A8 W own mb g R) (hp:R8 g) (rv:RV g R t) (hst:R.st=0) (hn:R.ths.length<=10000000000) :
  Calls prog 100 #[.pointer (some ⟨mb,0,none⟩)] W fun e w'=>e=.returned (.tuple #[])/\∃own' R',A8 w' own' mb g R'/\RV g R' (U5 g t)/\R'.cap=R.cap/\R'.ths.length<=R.ths.length+1/\A2 own W own' w'/\∀b q,R'.da=some ⟨b,q,none⟩->∃q',R.da=some ⟨b,q',none⟩:=by
 have xh:t.st=0:=by rw [rv.v.st];exact hst
 have xq:t.frs≠[]:=rv.i.run xh;have xm:R.frs≠[]:=fun e=>xq (by rw [rv.v.frs];show (R.frs.map _).map _=[];rw [e];rfl)
 obtain⟨fs,f,hf⟩:∃fs f,R.frs=fs++[f]:=⟨_,_,(List.dropLast_concat_getLast xm).symm⟩
 have xj:R.abs.frs=fs.map FrR.abs++[f.abs]:=by show R.frs.map FrR.abs=_;rw [hf];simp
 have xk:t.frs=(fs.map FrR.abs).map (D8 (sig (R.ths.map ThR.slot)))++[D8 (sig (R.ths.map ThR.slot)) f.abs]:=by rw [rv.v.frs,xj,List.map_append];rfl
 obtain⟨k,a,xd,args',hk,o,e⟩:=rv.i.opAt hp xk;have xl:(g.f f.fn).op f.pc=(k:Int):=o.op;have xi:(g.f f.fn).ar f.pc=a:=o.ar;have xg:f.stk.map (ren (sig (R.ths.map ThR.slot)))=xd++args':=o.stk;obtain⟨rest,args,hs,rfl,rfl⟩:=List.map_eq_append_iff.1 xg;have xe:N7 k (g.f a.toNat).p=args.length:=by have:=o.pops;rwa [List.length_map] at this
 obtain⟨h1,_⟩:=rv.i.top xk;obtain⟨xr,hl,_,_⟩:=h1.at hp;have xb:E9 g.n (g.f f.fn).l (g.f f.fn).n k a=true:=by
  have:E9 g.n (g.f f.fn).l (g.f f.fn).n ((g.f f.fn).op f.pc) ((g.f f.fn).ar f.pc)=true:=hl;rwa [xl,xi] at this
 have xf:(f.loc.length:Int)=(g.f f.fn).l:=by
  have:=h1.loc;have e2:(D8 (sig (R.ths.map ThR.slot)) f.abs).loc.length=f.loc.length:=by show (f.abs.loc.map _).length=_;rw [List.length_map];rfl
  rw[e2] at this;exact this
 have O:OpR W own mb g R t fs f k a rest args:=⟨h,hp,rv,hst,hf,hs,xl,xi,xe,xb,h1.fn,xf,hn⟩;refine (a5n O hk).mono ?_;rintro e' w' ⟨rfl,own',R',hR,xc,hm,hT,xo⟩;have hS:nB g t.obs.length (R.ths.map ThR.slot,R.abs)=(R'.ths.map ThR.slot,R'.abs):=by rw [a3D xj O.opAt,<- rv.cap];exact hm.symm
 have hv:=a1G hp rv.v rv.i hst;rw[hS] at hv;have xa:=a4y (g:=g) (cap:=R.cap) (sl:=R.ths.map ThR.slot) (s:=R.abs) (fs:=fs.map FrR.abs) (f:=f.abs) (rest:=rest) (args:=args) (k:=k) (a:=a);rw[<- hm] at xa;simp only[List.length_map] at xa;have xn:L8 R'.abs.obs:=by
  have:=a3K (g:=g) (cap:=R.cap) (sl:=R.ths.map ThR.slot) (s:=R.abs) (fs:=fs.map FrR.abs) (f:=f.abs) (rest:=rest) (args:=args) (k:=k) (a:=a) rv.th (fun v hv h2=>(O.ref hv h2).1) (fun e=>by
   subst e;have xp:A9 a 0 8=true:=xb;rw[E4] at xp;omega)
  rw[<- hm] at this;exact this
 refine⟨rfl,own',R',hR,⟨hv,lZ hp rv.i xh,xn,?_⟩,xc,xa,hT,xo⟩;rw[xc,qJ];exact rv.cap
theorem a5e {g:PgR} {t:McA} (h:A8 W own mb g R) (hp:R8 g) (rv:RV g R t) (hn:R.ths.length<=9999990000) (fuel:Nat) (hfu:fuel<=10000) :
  Calls prog 61 #[.pointer (some ⟨mb,0,none⟩),.int .i64 (fuel:Int)] W fun e w'=>e=.returned (.tuple #[.int .i64 (E7 g fuel t:Int),.int .i64 0])/\∃own' R',A8 w' own' mb g R'/\RV g R' (K4 g fuel t)/\R'.cap=R.cap/\R'.ths.length<=R.ths.length+fuel/\A2 own W own' w'/\∀b q,R'.da=some ⟨b,q,none⟩->∃q',R.da=some ⟨b,q',none⟩:=by
 refine (a3m h fuel hfu (fun i R'=>RV g R' (K4 g i t)/\E7 g i t=i/\R'.cap=R.cap/\R'.ths.length<=R.ths.length+i/\∀b q,R'.da=some ⟨b,q,none⟩->∃q',R.da=some ⟨b,q',none⟩) ⟨rv,rfl,rfl,L1c _,fun b q e=>⟨q,e⟩⟩ fun i U own' R' hi hS h0 hR=>?_).mono ?_
 ·obtain ⟨xa,hs,hc,hl,hd⟩:=hS
  have xc:(K4 g i t).st=0:=by rw [xa.v.st];exact h0
  refine (a3G hR hp xa h0 R4).mono ?_;rintro e w' ⟨rfl,xb,xi,xd,xf,xg,xj,hT,xe⟩;refine⟨rfl,xb,xi,⟨?_,?_,by rw [xg,hc],by omega,fun b q e=>by obtain ⟨q',e'⟩:=xe b q e;exact hd b q' e'⟩,xd,hT⟩
  ·rw [jT g i t xc];exact xf
  ·have:=(mV g i 1 t).2
   rw[this,hs,E7,if_pos xc];rfl
 ·rintro e w' ⟨n,own',R',xk,rfl,⟨xa,hs,hc,hl,hd⟩,hend,hR,hT⟩
  obtain⟨d,rfl⟩:∃d,fuel=n+d:=⟨fuel - n,by omega⟩
  have xh:K4 g (n+d) t=K4 g n t/\E7 g (n+d) t=n:=by
   obtain⟨k1,k2⟩:=mV g n d t;rcases hend with he | he
   ·have:d=0:=by omega
    subst this;exact⟨rfl,hs⟩
   ·have xc:(K4 g n t).st≠0:=by rw [xa.v.st];exact he
    obtain⟨s1,s2⟩:=mX g xc d;exact⟨by rw [k1,s1],by rw [k2,s2,hs];rfl⟩
  rw[xh.1,xh.2];exact⟨rfl,own',R',hR,xa,hc,by omega,hT,hd⟩
end
def aR (sl:List Int) (n:Nat):Nat:=((sl.take n).filter fun x=>decide (0<=x)).length
theorem uH {sl:List Int} {i:Nat} {x:Int} (h:sl[i]?=some x):aR sl (i+1)=aR sl i+if 0<=x then 1 else 0:=by
 unfold aR;rw[List.take_add_one,h,List.filter_append,List.length_append];by_cases h0:0<=x <;> simp [h0]
theorem a1J (sl:List Int) (n:Nat):aR sl n<=n:=by
 have h1:=List.length_filter_le (fun x=>decide (0<=x)) (sl.take n);have h2:(sl.take n).length<=n:=by rw [List.length_take];omega
 unfold aR;omega
theorem tZ {W:World} {own:Own} {mb:Nat} {g:PgR} {R:RfR} (h:A8 W own mb g R) (hth:R.ths.length<=100000000000) (hdn:R.dr.length<=1000) :
  Calls prog 21 #[.pointer (some ⟨mb,0,none⟩)] W fun e w'=>e=.returned (.agg #[.int .i64 R.st,.int .i64 (((R.ths.map ThR.slot).filter fun x=>decide (0<=x)).length:Int),.int .i64 (R.dr.length:Int)])/\Below W.heap.size W w':=by
 have xf:=(fun (_:R.dr.length<=1000)=>h.lt _ _ h.me) hdn;have m2:=h.c2;have m6:=h.c6;obtain⟨_,ta,xq,n5,hx⟩:=h.slotsIn;rw[List.length_map] at n5 hx;have M5:=hid n5;have HX:=hid hx;have xh:mb < W.heap.size+1:=by omega
 have xi:mb < W.heap.size+1+1:=by omega
 generalize R.st=st at *
 generalize R.dr.length=nd at *
 clear h n5 hx;go_enter func21,ntmps21;go_wp2_with fail;go_region
 have hB:Below W.heap.size W ((W.alloc (Obj.cells #[.int .i64 0,.int .i64 0,.int .i64 0] 63)).alloc (Obj.cells #[.int .i64 st,.int .i64 0,.int .i64 (nd:Int)] 63)).drew:=Below.drew (Below.alloc (Below.alloc (Below.refl _ _) (L1c _) _) R5 _);go_wp2_with fail;go_loopw [4] (fun vi wr=>∃i:Nat,i<=R.ths.length/\vi=.int .i64 i/\Below W.heap.size W wr/\W.heap.size+1 < wr.heap.size/\wr.cell? ⟨W.heap.size+1,0,none⟩=some (.int .i64 st)/\wr.cell? ⟨W.heap.size+1,1,none⟩=some (.int .i64 (aR (R.ths.map ThR.slot) i:Int))/\wr.cell? ⟨W.heap.size+1,2,none⟩=some (.int .i64 (nd:Int))/\wr.frozen? ⟨W.heap.size+1,1,none⟩=false/\(∀j,j < 3->wr.cell? ⟨W.heap.size,j,none⟩=some (.int .i64 0)/\wr.frozen? ⟨W.heap.size,j,none⟩=false)) (fun vi _=>R.ths.length - (intOf vi).toNat)
 case atStart =>
  refine⟨0,Nat.zero_le _,rfl,hB,by simp,by go_simp,?_,by go_simp,by go_simp,fun j hj=>?_⟩
  ·have:aR (R.ths.map ThR.slot) 0=0:=by unfold aR;simp
   rw[this];go_simp
  ·have:j=0\/j=1\/j=2:=by omega
   rcases this with rfl | rfl | rfl <;> exact ⟨by go_simp,by go_simp⟩
 case round =>
  obtain⟨i,hi,rfl,hb,xd,s0,s1,s2,sz,hz⟩:=hrel;have m5:=keep hb xf M5.out;have xp:mb < wr.heap.size:=L0a xf hb.size;have xr:=a1J (R.ths.map ThR.slot) i;obtain⟨r0,z0⟩:=hz 0 R3;obtain⟨r1,z1⟩:=hz 1 R3;obtain⟨r2,z2⟩:=hz 2 R3;have HB:=hid hb;have HZ:=hid hz;have xo:=hid s0;have xj:=hid s2;have xm:=hid sz;have xl:W.heap.size < wr.heap.size:=by omega
  by_cases hlt:i < R.ths.length
  ·obtain ⟨x,hx⟩:∃x,(R.ths.map ThR.slot)[i]?=some x:=⟨_,L1b (by rw [List.length_map];exact hlt)⟩
   obtain⟨b,rfl,xb,xa⟩:=HX.out R4;have t2:=keep hb xb (xa i x hx);have xs:b < wr.heap.size:=L0a xb hb.size;have xn:(i:Int) < (R.ths.length:Int):=by omega
   have xe:=hid (uH hx);have xg:b≠W.heap.size+1:=by omega
   by_cases h0:0<=x
   ·clear hb hz hx xa
    go_wp2_with fail;go_roundw
    case rel =>
     have xc:∀k,k≠W.heap.size+1->(wr.setCell ⟨W.heap.size+1,1,none⟩ (.int .i64 ((aR (R.ths.map ThR.slot) i:Int)+1))).heap[k]?=wr.heap[k]?:=fun k hk=>heap_setCell_other _ _ _ _ hk
     refine⟨i+1,by omega,by go_num,Below.setCell HB.out (by show W.heap.size<=W.heap.size+1;omega) _,by simpa using xd,(B8 _ R3).trans xo.out,?_,(B8 _ R3).trans xj.out,by go_simp;try exact xm.out,fun j hj=>?_⟩
     ·rw [World.cell?_setCell_same _ _ _ s1,xe.out,if_pos h0]
      go_num
     ·rw [L0b (w:=wr) (a:=⟨W.heap.size,j,none⟩) (xc _ R5),L0c (w:=wr) (a:=⟨W.heap.size,j,none⟩) (xc _ R5)]
      exact HZ.out j hj
    case measure=>simp [intOf];omega
   ·clear hb hz hx xa
    go_wp2_with fail;go_roundw
    case rel=>exact ⟨i+1,by omega,by go_num,HB.out,xd,s0,by rw [xe.out,if_neg R4];exact s1,s2,sz,HZ.out⟩
    case measure=>simp [intOf];omega
  ·obtain rfl:i=R.ths.length:=by omega
   have xk:Hid (aR (R.ths.map ThR.slot) R.ths.length=((R.ths.map ThR.slot).filter fun x=>decide (0<=x)).length):=hid (by
    unfold aR;rw[show R.ths.length=(R.ths.map ThR.slot).length by rw [List.length_map],List.take_length])
   clear hb hz;go_wp2_with fail;refine bodyPost_ret (v:=.agg #[.int .i64 st,.int .i64 (aR (R.ths.map ThR.slot) R.ths.length:Int),.int .i64 (nd:Int)]) (by simp [results,results21,go_sem,r0,r1,r2]) rfl ?_;exact⟨by rw [xk.out],Below.setCell (Below.setCell (Below.setCell HB.out (L1c _) _) (L1c _) _) (L1c _) _⟩
section
variable {M M' N N' mb yb:Nat} {P P':A3} {R:McR} {Y:PlR} {g:PgR} {own:Own} {w w':World}
theorem a5d (fuel:Int) (h:fuel < 0\/10000 < fuel):Calls prog 99 #[.pointer (some ⟨mb,0,none⟩),.int .i64 fuel] w fun e w'=>e=.returned (.tuple #[.int .i64 0,.int .i64 5])/\w'=w:=by
 have xa:A9 fuel 0 10000=false:=Z1 R4;go_enter func99,ntmps99;go_wp2_with (go_at_call 116;refine (B3 _ _ _ _).mono ?_;rintro e w' ⟨rfl,hw⟩;rw [hw,xa];clear hw w')
 go_ret2;exact⟨rfl,rfl⟩
theorem a4s (fuel:Int) (h:fuel < 0\/10000 < fuel):Calls prog 60 #[.pointer (some ⟨mb,0,none⟩),.int .i64 fuel] w fun e w'=>e=.returned (.tuple #[.int .i64 0,.int .i64 5])/\w'=w:=by
 have H:=hid (a5d (mb:=mb) (w:=w) fuel h);clear h;go_enter func60,ntmps60;go_wp2_with (go_at_call 99;refine H.out.mono ?_;rintro e w2 ⟨rfl,hw⟩;rw [hw];clear hw w2)
 go_ret2;exact⟨rfl,rfl⟩
theorem uL (h:A4 w own mb g R) (hn:R.frs.length<=1000) (hf:∀f,f∈R.frs->f.loc.length<=1000/\f.stk.length<=1000) :
  Calls prog 25 #[.pointer (some ⟨mb,0,none⟩)] w fun e w'=>kX R.frs w e w':=by
 have H:=hid (lM h hn hf);clear h;go_enter func25,ntmps25;go_wp2_with (go_at_call 47;refine H.out.mono ?_;rintro e w2 ⟨v,fl,rfl,hq⟩)
 go_ret;exact⟨v,fl,rfl,hq⟩
theorem a1S (h:A4 w own mb g R) (hn:R.obs.length<=1000) (h0:0 < R.obs.length) (hf:∀o,o∈R.obs->o.fl.length<=1000) :
  Calls prog 29 #[.pointer (some ⟨mb,0,none⟩)] w fun e w'=>lB R.obs w e w':=by
 have H:=hid (nI h hn h0 hf);clear h;go_enter func29,ntmps29;go_wp2_with (go_at_call 51;refine H.out.mono ?_;rintro e w2 ⟨v,fl,rfl,hq⟩)
 go_ret;exact⟨v,fl,rfl,hq⟩
structure jF (P:A3) (i xb cb N:Nat):Prop where
 ex:∃ox gx RX oc gc RC t,P (1,i)=cN ox xb gx RX/\P (2,i)=nR oc cb gc RC/\Is gx t RX/\C4 gx t/\R8 gx/\Y6 gx gc/\RV gc RC t/\RC.ths.length<=N
structure N4 where
 w:World
 F:Nat->Prop
structure a5L (w0:N4) (w:World):Prop where
 os:w.os=w0.w.os
 tape:w.tape=w0.w.tape
 output:w.output=w0.w.output
 size:w0.w.heap.size<=w.heap.size
 block:∀b,b < w0.w.heap.size->w0.F b->w.heap[b]?=w0.w.heap[b]?
structure Lw (w0:N4) (P:A3) (w:World) (yb:Nat) (Y:PlR) (N M:Nat):Prop where
 sep:Sep P w
 p0:P (0,0)=I2 yb Y
 law:I9 P Y
 pair:∀i p,Y.ps[i]?=some p->jF P i p.1 p.2 N
 len:∀j,(Y.l j).length<=M
 nps:Y.ps.length<=M
 bel:a5L w0 w
 lo:∀i b,(P i).B b->¬(b < w0.w.heap.size/\w0.F b)
theorem bD {w0:N4} (hb:a5L w0 w) (hlo:∀i b,(P i).B b->¬(b < w0.w.heap.size/\w0.F b)) (hS:Stp P w P' w'):a5L w0 w'/\∀i b,(P' i).B b->¬(b < w0.w.heap.size/\w0.F b):=by
 have hs:=hb.size;refine⟨⟨hS.os.trans hb.os,hS.tape.trans hb.tape,hS.output.trans hb.output,Nat.le_trans hs hS.size,fun b hb' hF=>(hS.out b R4 fun i hi=>hlo i b hi ⟨hb',hF⟩).trans (hb.block b hb' hF)⟩,fun i b hb'=>?_⟩;rcases hS.grow i b hb' with ⟨j,hj⟩ | h
 ·exact hlo j b hj
 ·exact fun e=>by have:=e.1;omega
theorem Lw.below {w0:N4} (h:Lw w0 P w yb Y N M) (hB:Below w.heap.size w w'):Lw w0 P w' yb Y N M :=
 ⟨h.sep.below hB,h.p0,h.law,h.pair,h.len,h.nps,(bD h.bel h.lo (Stp.below hB)).1,h.lo⟩
theorem Lw.play {w0:N4} (h:Lw w0 P w yb Y N M):I1 w yb Y:=by have:=h.sep.F (0,0);rw [h.p0] at this;exact this
theorem Lw.mono {w0:N4} (h:Lw w0 P w yb Y N M) (hN:N<=N') (hM:M<=M'):Lw w0 P w yb Y N' M' :=
 ⟨h.sep,h.p0,h.law,fun i p hp=>by
  obtain⟨ox,gx,RX,oc,gc,RC,t,h1,h2,h3,h4,h5,h6,h7,h8⟩:=(h.pair i p hp).ex;exact⟨ox,gx,RX,oc,gc,RC,t,h1,h2,h3,h4,h5,h6,h7,by omega⟩,fun j=>Nat.le_trans (h.len j) hM,Nat.le_trans h.nps hM,h.bel,h.lo⟩
theorem Stp.one (i:Nat × Nat) (p:D5) (h1:w'.os=w.os) (h2:w'.tape=w.tape) (h3:w'.output=w.output) (hs:w.heap.size<=w'.heap.size) (hk:∀k,k < w.heap.size->¬(P i).B k->w'.heap[k]?=w.heap[k]?) (hB:∀k,p.B k->(P i).B k\/w.heap.size<=k):Stp P w (P.put i p) w' :=
 ⟨h1,h2,h3,hs,fun b hb hn=>hk b hb (hn i),fun j b hb=>by
  by_cases e:j=i
  ·rw [e,A3.put_same] at hb
   rcases hB b hb with h | h
   ·exact Or.inl ⟨i,h⟩
   ·exact Or.inr h
  ·rw [A3.put_ne P e] at hb
   exact Or.inl ⟨j,hb⟩⟩
theorem Lw.put {w0:N4} {i:Nat} {a:Nat} {p:D5} (h:Lw w0 P w yb Y N M) (ha:a=1\/a=2) (hS:Sep (P.put (a,i) p) w') (hT:Stp P w (P.put (a,i) p) w') (hpair:∀q r,Y.ps[q]?=some r->jF (P.put (a,i) p) q r.1 r.2 N'):Lw w0 (P.put (a,i) p) w' yb Y N' M:=by
 obtain⟨hb,xa⟩:=bD h.bel h.lo hT;refine⟨hS,by rw [A3.put_ne _ (by intro e;simp only [Prod.mk.injEq] at e;omega)];exact h.p0,⟨h.law.1,fun j q nb h1 h5 hq=>?_⟩,hpair,h.len,h.nps,hb,xa⟩;rw[A3.put_ne _ (by intro e;simp only [Prod.mk.injEq] at e;omega)];exact h.law.2 j q nb h1 h5 hq
def N4.more (w0:N4) (w:World) (G:Nat->Prop):N4:=⟨w,fun b=>(b < w0.w.heap.size/\w0.F b)\/G b⟩
theorem Lw.more {w0:N4} (h:Lw w0 P w yb Y N M) (G:Nat->Prop) (hG:∀i b,(P i).B b->¬G b):Lw (w0.more w G) P w yb Y N M :=
 ⟨h.sep,h.p0,h.law,h.pair,h.len,h.nps,⟨rfl,rfl,rfl,L1c _,fun _ _ _=>rfl⟩,fun i b hb e=>by
  rcases e.2 with e | e
  ·exact h.lo i b hb e
  ·exact hG i b hb e⟩
theorem Lw.less {w0:N4} {Y':PlR} {G:Nat->Prop} (h:Lw w0 P w yb Y N M) (h':Lw (w0.more w G) P' w' yb Y' N' M'):Lw w0 P' w' yb Y' N' M'/\∀b,b < w.heap.size->G b->w'.heap[b]?=w.heap[b]?:=by
 have hs:w0.w.heap.size<=w.heap.size:=h.bel.size;have xa:w.heap.size<=w'.heap.size:=h'.bel.size;exact⟨⟨h'.sep,h'.p0,h'.law,h'.pair,h'.len,h'.nps,⟨h'.bel.os.trans h.bel.os,h'.bel.tape.trans h.bel.tape,h'.bel.output.trans h.bel.output,Nat.le_trans hs xa,fun b hb hF=>(h'.bel.block b (L0a hb hs) (Or.inl ⟨hb,hF⟩)).trans (h.bel.block b hb hF)⟩,fun i b hb e=>h'.lo i b hb ⟨L0a e.1 hs,Or.inl e⟩⟩,fun b hb hg=>h'.bel.block b hb (Or.inr hg)⟩
end
end Go.Proofs.YtbkmgoffiigdbaaGreatDoor
