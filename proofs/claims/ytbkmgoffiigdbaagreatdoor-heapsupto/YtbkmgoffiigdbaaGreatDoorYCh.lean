import Derived.Test.YtbkmgoffiigdbaaGreatDoorWCc
import Derived.Test.YtbkmgoffiigdbaaGreatDoorWBb
import Derived.Test.YtbkmgoffiigdbaaGreatDoorWCb
import Derived.Test.YtbkmgoffiigdbaaGreatDoorYCg
namespace Go.Proofs.YtbkmgoffiigdbaaGreatDoor
open Go.RowKit Go.Sort Go.Proofs.Tryz
set_option maxHeartbeats 4000000
set_option maxRecDepth 100000
section
variable {x y:Val}
section
variable {W:World} {own:Own} {mb:Nat} {g:PgR} {R:RfR} {t:McA} {fs:List FrR} {f:FrR} {a:Int} {rest:List Val}
theorem a6r (o:OpR W own mb g R t fs f 0 a rest []):Calls prog 100 #[.pointer (some ⟨mb,0,none⟩)] W fun e w'=>E8 own mb g R (doD g R.cap 0 a (R.ths.map ThR.slot) R.abs (fs.map FrR.abs) f.abs rest []) W e w':=by
 obtain⟨sa,sc,la,lc,xa,xb,_⟩:=o.lists;have hb:=o.bds;refine o.goP R3 R3 R3 0 (f.pc+1) (dI:=0) (tI:=(f.pc:Int)+1) (push:=[(1,a)]) rfl rfl R4 R5 (by rw [o.stk];simp) (o.simpleP R3 fun V hV=>?_);rw[xa,xb];exact a6l f.fn a f.pc R4 R4
theorem a6u (o:OpR W own mb g R t fs f 1 a rest []):Calls prog 100 #[.pointer (some ⟨mb,0,none⟩)] W fun e w'=>E8 own mb g R (doD g R.cap 1 a (R.ths.map ThR.slot) R.abs (fs.map FrR.abs) f.abs rest []) W e w':=by
 obtain⟨sa,sc,la,lc,xa,xb,_⟩:=o.lists;have hb:=o.bds;refine o.goP R3 R3 R3 0 (f.pc+1) (dI:=0) (tI:=(f.pc:Int)+1) (push:=[(0,0)]) rfl rfl R4 R5 (by rw [o.stk];simp) (o.simpleP R3 fun V hV=>?_);rw[xa,xb];exact a6m f.fn a f.pc R4 R4
theorem a5n (o:OpR W own mb g R t fs f 2 a rest []):Calls prog 100 #[.pointer (some ⟨mb,0,none⟩)] W fun e w'=>E8 own mb g R (doD g R.cap 2 a (R.ths.map ThR.slot) R.abs (fs.map FrR.abs) f.abs rest []) W e w':=by
 obtain⟨sa,sc,la,lc,xf,xe,_,_,_,hl⟩:=o.lists;have hb:=o.bds;have xa:B0 a 0 ((g.f f.fn).l - 1)=true:=o.leg;rw[E2] at xa;have xg:=o.hloc;obtain⟨b,rfl⟩:=L5c xa.1;have xb:b < f.loc.length:=by omega
 obtain⟨lb,rfl,xd,_,xc⟩:=hl R4;have hx:f.loc[b]?=some f.loc[b]:=L1b xb;refine o.goP R3 R3 R3 0 (f.pc+1) (dI:=0) (tI:=(f.pc:Int)+1) (push:=[f.loc[b]]) (l:=rest++[f.abs.loc.getD (b:Int).toNat (0,0)]) rfl rfl R4 R5 (by
  have e:f.abs.loc.getD (b:Int).toNat (0,0)=f.loc[b]:=by
   show f.loc.getD _ _=_;rw[Int.toNat_natCast,List.getD_eq_getElem?_getD,hx];rfl
  rw[e,o.stk];simp) (o.simpleP R3 fun V hV=>?_)
 rw[xf,xe];exact a5c f.fn b f.loc[b] f.pc R4 R4 (L0a xd hV.size) (xc V hV b _ hx).1 (xc V hV b _ hx).2 xb R4
theorem a3E (o:OpR W own mb g R t fs f 3 a rest [x]):Calls prog 100 #[.pointer (some ⟨mb,0,none⟩)] W fun e w'=>E8 own mb g R (doD g R.cap 3 a (R.ths.map ThR.slot) R.abs (fs.map FrR.abs) f.abs rest [x]) W e w':=by
 obtain⟨sb,sc,la,lc,xe,xc,xa,hc⟩:=o.at1;have hb:=o.bds;have xb:B0 a 0 ((g.f f.fn).l - 1)=true:=o.leg;rw[E2] at xb;have xf:=o.hloc;have xd:=o.slen;obtain⟨b,rfl⟩:=L5c xb.1;have xg:b < f.loc.length:=by omega
 have hx:f.loc[b]?=some f.loc[b]:=L1b xg;refine o.go R3 R3 R3 (drop:=1) (to:=f.pc+1) (push:=[]) (P:=fun R'=>R'={ R with frs:=fs++[{ f with loc:=f.loc.set b x }] }) (by rw [xd];simp) R3 (fun R' e=>?_) (o.simple R3 (fun R' e b q hq=>by subst e;exact (o.h.dro b q hq).1) fun V hV=>?_) (fun R' sv l e hfr=>?_)
 ·subst e
  exact⟨⟨_,rfl⟩,rfl,fun b q hq=>(o.h.dro b q hq).1⟩
 ·have hr:=a3t (sc:=sc) (la:=la) (lc:=lc) f.fn x b f.pc R4 (hc V hV).1 (hc V hV).2.1 (hc V hV).2.2 (by simp at xd;omega) (o.h.same hV) o.hf hx xc rfl R4 (fun k hk e=>by rw [e,hk] at xa;cases xa)
  generalize (fun R':RfR=>R'={ R with frs:=fs++[{ f with loc:=f.loc.set b x }] })=P at hr ⊢;rw[xe,xc];exact hr
 ·subst e
  have e2:f.loc.set b x=l:=by
   have:=List.append_cancel_left hfr;simp only[List.cons.injEq,and_true,FrR.mk.injEq] at this;exact this.2.2.2.2
  subst e2;refine⟨rfl,Prod.ext rfl ?_,fun b q e=>⟨q,e⟩⟩;show (⟨R.st,R.out,(fs++[_]).map FrR.abs,_,R.dr⟩:McA)=_;rw[o.st,List.map_append,List.map_cons,List.map_nil,o.stk];show _=(⟨0,R.out,fs.map FrR.abs++[⟨f.fn,f.pc+1,f.loc.set (b:Int).toNat x,rest⟩],_,R.dr⟩:McA);rw[Int.toNat_natCast];simp[FrR.abs,RfR.abs]
theorem a6p (o:OpR W own mb g R t fs f 4 a rest [x]):Calls prog 100 #[.pointer (some ⟨mb,0,none⟩)] W fun e w'=>E8 own mb g R (doD g R.cap 4 a (R.ths.map ThR.slot) R.abs (fs.map FrR.abs) f.abs rest [x]) W e w':=by
 obtain⟨sb,sc,la,lc,xa,xb,_,hc⟩:=o.at1;have hb:=o.bds;have xc:=o.slen;simp only[List.length_cons,List.length_nil] at xc;refine o.goP R3 R3 R3 0 (f.pc+1) (dI:=0) (tI:=(f.pc:Int)+1) (push:=[x]) (l:=rest++[x,x]) rfl rfl R4 R5 (by rw [o.stk];simp [List.take_of_length_le]) (o.simpleP R3 fun V hV=>?_);rw[xa,xb];exact a6k f.fn x a f.pc R4 (hc V hV).1 (hc V hV).2.1 (hc V hV).2.2 R4
theorem a6v (o:OpR W own mb g R t fs f 5 a rest [x]):Calls prog 100 #[.pointer (some ⟨mb,0,none⟩)] W fun e w'=>E8 own mb g R (doD g R.cap 5 a (R.ths.map ThR.slot) R.abs (fs.map FrR.abs) f.abs rest [x]) W e w':=by
 obtain⟨sb,sc,la,lc,xa,xb,_,hc⟩:=o.at1;have hb:=o.bds;have xc:=o.slen;simp only[List.length_cons,List.length_nil] at xc;refine o.goP R3 R3 R3 1 (f.pc+1) (dI:=1) (tI:=(f.pc:Int)+1) (push:=[]) (l:=rest) rfl rfl R4 R5 (by rw [o.stk];simp) (o.simpleP R3 fun V hV=>?_);rw[xa,xb];exact a6n f.fn x a f.pc R4 (hc V hV).1 (hc V hV).2.1 (hc V hV).2.2 R4
theorem a3C (o:OpR W own mb g R t fs f 25 a rest [x]):Calls prog 100 #[.pointer (some ⟨mb,0,none⟩)] W fun e w'=>E8 own mb g R (doD g R.cap 25 a (R.ths.map ThR.slot) R.abs (fs.map FrR.abs) f.abs rest [x]) W e w':=by
 obtain⟨sb,sc,la,lc,xa,xb,_,hc⟩:=o.at1;have hb:=o.bds;have xc:=o.slen;simp only[List.length_cons,List.length_nil] at xc;refine o.goP R3 R3 R3 1 (f.pc+1) (dI:=1) (tI:=(f.pc:Int)+1) (push:=[(1,C9 (x.1 == 2))]) (l:=rest++[(1,C9 (x.1 == 2))]) rfl rfl R4 R5 (by rw [o.stk];simp) (o.simpleP R3 fun V hV=>?_);rw[xa,xb];exact a3s f.fn x a f.pc R4 (hc V hV).1 (hc V hV).2.1 (hc V hV).2.2 R4
theorem a5p (o:OpR W own mb g R t fs f 6 a rest [x,y]):Calls prog 100 #[.pointer (some ⟨mb,0,none⟩)] W fun e w'=>E8 own mb g R (doD g R.cap 6 a (R.ths.map ThR.slot) R.abs (fs.map FrR.abs) f.abs rest [x,y]) W e w':=by
 obtain⟨sb,sc,la,lc,xa,xb,_,hc⟩:=o.at2;have hb:=o.bds;have xc:=o.slen;simp only[List.length_cons,List.length_nil] at xc;refine o.goP R3 R3 R3 2 (f.pc+1) (dI:=2) (tI:=(f.pc:Int)+1) (push:=[y,x]) (l:=rest++[y,x]) rfl rfl R4 R5 (by rw [o.stk];simp) (o.simpleP R3 fun V hV=>?_);rw[xa,xb];exact a5e f.fn x y a f.pc R4 (hc V hV).1 (hc V hV).2.1 (hc V hV).2.2.1 (hc V hV).2.2.2.1 (hc V hV).2.2.2.2 R4
theorem a6o (o:OpR W own mb g R t fs f 7 a rest [x,y]):Calls prog 100 #[.pointer (some ⟨mb,0,none⟩)] W fun e w'=>E8 own mb g R (doD g R.cap 7 a (R.ths.map ThR.slot) R.abs (fs.map FrR.abs) f.abs rest [x,y]) W e w':=by
 obtain⟨sb,sc,la,lc,xa,xb,_,hc⟩:=o.at2;have hb:=o.bds;have xc:=o.slen;simp only[List.length_cons,List.length_nil] at xc;show Calls prog 100 _ W fun e w'=>E8 own mb g R (R.ths.map ThR.slot,F6 R.abs (fs.map FrR.abs) f.abs rest x y (wrap64 (x.2+y.2))) W e w'
 by_cases h1:x.1=1/\y.1=1
 ·rw [F6,if_pos h1]
  refine o.goP R3 R3 R3 2 (f.pc+1) (dI:=2) (tI:=(f.pc:Int)+1) (push:=[(1,wrap64 (x.2+y.2))]) rfl rfl R4 R5 (by rw [o.stk];simp) (o.simpleP R3 fun V hV=>?_);rw[xa,xb];exact aF f.fn x y a f.pc R4 (hc V hV).1 (hc V hV).2.1 (hc V hV).2.2.1 (hc V hV).2.2.2.1 (hc V hV).2.2.2.2 R4 7 R3 (fun U=>by rw [h1.1,h1.2];exact xB f.pc R4 x.2 y.2 U)
 ·rw [F6,if_neg h1]
  refine o.trap R3 R3 R3 R3 (o.simpleP R3 fun V hV=>?_);rw[xa,xb];exact aF f.fn x y a f.pc R4 (hc V hV).1 (hc V hV).2.1 (hc V hV).2.2.1 (hc V hV).2.2.2.1 (hc V hV).2.2.2.2 R4 7 R3 (fun U=>cO _ f.pc x y U h1)
theorem a6y (o:OpR W own mb g R t fs f 8 a rest [x,y]):Calls prog 100 #[.pointer (some ⟨mb,0,none⟩)] W fun e w'=>E8 own mb g R (doD g R.cap 8 a (R.ths.map ThR.slot) R.abs (fs.map FrR.abs) f.abs rest [x,y]) W e w':=by
 obtain⟨sb,sc,la,lc,xa,xb,_,hc⟩:=o.at2;have hb:=o.bds;have xc:=o.slen;simp only[List.length_cons,List.length_nil] at xc;show Calls prog 100 _ W fun e w'=>E8 own mb g R (R.ths.map ThR.slot,F6 R.abs (fs.map FrR.abs) f.abs rest x y (wrap64 (x.2 - y.2))) W e w'
 by_cases h1:x.1=1/\y.1=1
 ·rw [F6,if_pos h1]
  refine o.goP R3 R3 R3 2 (f.pc+1) (dI:=2) (tI:=(f.pc:Int)+1) (push:=[(1,wrap64 (x.2 - y.2))]) rfl rfl R4 R5 (by rw [o.stk];simp) (o.simpleP R3 fun V hV=>?_);rw[xa,xb];exact aF f.fn x y a f.pc R4 (hc V hV).1 (hc V hV).2.1 (hc V hV).2.2.1 (hc V hV).2.2.2.1 (hc V hV).2.2.2.2 R4 8 R3 (fun U=>by rw [h1.1,h1.2];exact xD f.pc R4 x.2 y.2 U)
 ·rw [F6,if_neg h1]
  refine o.trap R3 R3 R3 R3 (o.simpleP R3 fun V hV=>?_);rw[xa,xb];exact aF f.fn x y a f.pc R4 (hc V hV).1 (hc V hV).2.1 (hc V hV).2.2.1 (hc V hV).2.2.2.1 (hc V hV).2.2.2.2 R4 8 R3 (fun U=>cO _ f.pc x y U h1)
theorem a6t (o:OpR W own mb g R t fs f 9 a rest [x,y]):Calls prog 100 #[.pointer (some ⟨mb,0,none⟩)] W fun e w'=>E8 own mb g R (doD g R.cap 9 a (R.ths.map ThR.slot) R.abs (fs.map FrR.abs) f.abs rest [x,y]) W e w':=by
 obtain⟨sb,sc,la,lc,xa,xb,_,hc⟩:=o.at2;have hb:=o.bds;have xc:=o.slen;simp only[List.length_cons,List.length_nil] at xc;show Calls prog 100 _ W fun e w'=>E8 own mb g R (R.ths.map ThR.slot,F6 R.abs (fs.map FrR.abs) f.abs rest x y (wrap64 (x.2*y.2))) W e w'
 by_cases h1:x.1=1/\y.1=1
 ·rw [F6,if_pos h1]
  refine o.goP R3 R3 R3 2 (f.pc+1) (dI:=2) (tI:=(f.pc:Int)+1) (push:=[(1,wrap64 (x.2*y.2))]) rfl rfl R4 R5 (by rw [o.stk];simp) (o.simpleP R3 fun V hV=>?_);rw[xa,xb];exact aF f.fn x y a f.pc R4 (hc V hV).1 (hc V hV).2.1 (hc V hV).2.2.1 (hc V hV).2.2.2.1 (hc V hV).2.2.2.2 R4 9 R3 (fun U=>by rw [h1.1,h1.2];exact xC f.pc R4 x.2 y.2 U)
 ·rw [F6,if_neg h1]
  refine o.trap R3 R3 R3 R3 (o.simpleP R3 fun V hV=>?_);rw[xa,xb];exact aF f.fn x y a f.pc R4 (hc V hV).1 (hc V hV).2.1 (hc V hV).2.2.1 (hc V hV).2.2.2.1 (hc V hV).2.2.2.2 R4 9 R3 (fun U=>cO _ f.pc x y U h1)
theorem a5m (o:OpR W own mb g R t fs f 10 a rest [x,y]):Calls prog 100 #[.pointer (some ⟨mb,0,none⟩)] W fun e w'=>E8 own mb g R (doD g R.cap 10 a (R.ths.map ThR.slot) R.abs (fs.map FrR.abs) f.abs rest [x,y]) W e w':=by
 obtain⟨sb,sc,la,lc,xa,xb,_,hc⟩:=o.at2;have hb:=o.bds;have xc:=o.slen;simp only[List.length_cons,List.length_nil] at xc;show Calls prog 100 _ W fun e w'=>E8 own mb g R (R.ths.map ThR.slot,F6 R.abs (fs.map FrR.abs) f.abs rest x y (C9 (decide (x.2 < y.2)))) W e w'
 by_cases h1:x.1=1/\y.1=1
 ·rw [F6,if_pos h1]
  refine o.goP R3 R3 R3 2 (f.pc+1) (dI:=2) (tI:=(f.pc:Int)+1) (push:=[(1,C9 (decide (x.2 < y.2)))]) rfl rfl R4 R5 (by rw [o.stk];simp) (o.simpleP R3 fun V hV=>?_);rw[xa,xb];exact aF f.fn x y a f.pc R4 (hc V hV).1 (hc V hV).2.1 (hc V hV).2.2.1 (hc V hV).2.2.2.1 (hc V hV).2.2.2.2 R4 10 R3 (fun U=>by rw [h1.1,h1.2];exact tQ f.pc R4 x.2 y.2 U)
 ·rw [F6,if_neg h1]
  refine o.trap R3 R3 R3 R3 (o.simpleP R3 fun V hV=>?_);rw[xa,xb];exact aF f.fn x y a f.pc R4 (hc V hV).1 (hc V hV).2.1 (hc V hV).2.2.1 (hc V hV).2.2.2.1 (hc V hV).2.2.2.2 R4 10 R3 (fun U=>cO _ f.pc x y U h1)
theorem a5l (o:OpR W own mb g R t fs f 12 a rest []):Calls prog 100 #[.pointer (some ⟨mb,0,none⟩)] W fun e w'=>E8 own mb g R (doD g R.cap 12 a (R.ths.map ThR.slot) R.abs (fs.map FrR.abs) f.abs rest []) W e w':=by
 obtain⟨sa,sc,la,lc,xa,xb,_⟩:=o.lists;have hb:=o.bds;have hj:=U7 o.leg (L4a rfl);refine o.goP R3 R3 R3 0 a.toNat (dI:=0) (tI:=a) (push:=[]) (l:=rest) rfl R4 R4 R3 (by rw [o.stk];simp) (o.simpleP R3 fun V hV=>?_);rw[xa,xb];exact a5b f.fn a f.pc R4 R4
theorem yC (o:OpR W own mb g R t fs f 13 a rest [x]):Calls prog 100 #[.pointer (some ⟨mb,0,none⟩)] W fun e w'=>E8 own mb g R (doD g R.cap 13 a (R.ths.map ThR.slot) R.abs (fs.map FrR.abs) f.abs rest [x]) W e w':=by
 obtain⟨sb,sc,la,lc,xa,xb,_,hc⟩:=o.at1;have hb:=o.bds;have xc:=o.slen;simp only[List.length_cons,List.length_nil] at xc;have hj:=U7 o.leg (L4b rfl);show Calls prog 100 _ W fun e w'=>E8 own mb g R (R.ths.map ThR.slot,if L0 x then goA R.abs (fs.map FrR.abs) f.abs (f.pc+1) rest else goA R.abs (fs.map FrR.abs) f.abs a.toNat rest) W e w'
 by_cases h2:x.1=2
 ·rw [if_pos (show L0 x=true by simp [L0,h2])]
  refine o.goP R3 R3 R3 1 (f.pc+1) (dI:=1) (tI:=(f.pc:Int)+1) (push:=[]) (l:=rest) rfl rfl R4 R5 (by rw [o.stk];simp) (o.simpleP R3 fun V hV=>?_);rw[xa,xb];exact a1r f.fn x a f.pc R4 (hc V hV).1 (hc V hV).2.1 (hc V hV).2.2 R4 h2
 ·by_cases h3:x.2=0
  ·rw [if_neg (show ¬L0 x=true by simp [L0,h2,h3])]
   refine o.goP R3 R3 R3 1 a.toNat (dI:=1) (tI:=a) (push:=[]) (l:=rest) rfl R4 R4 R5 (by rw [o.stk];simp) (o.simpleP R3 fun V hV=>?_);rw[xa,xb];exact xT f.fn x a f.pc R4 (hc V hV).1 (hc V hV).2.1 (hc V hV).2.2 R4 h2 h3
  ·rw [if_pos (show L0 x=true by simp [L0,h3])]
   refine o.goP R3 R3 R3 1 (f.pc+1) (dI:=1) (tI:=(f.pc:Int)+1) (push:=[]) (l:=rest) rfl rfl R4 R5 (by rw [o.stk];simp) (o.simpleP R3 fun V hV=>?_);rw[xa,xb];exact a1q f.fn x a f.pc R4 (hc V hV).1 (hc V hV).2.1 (hc V hV).2.2 R4 h2 h3
theorem a3D (o:OpR W own mb g R t fs f 26 a rest [x]):Calls prog 100 #[.pointer (some ⟨mb,0,none⟩)] W fun e w'=>E8 own mb g R (doD g R.cap 26 a (R.ths.map ThR.slot) R.abs (fs.map FrR.abs) f.abs rest [x]) W e w':=by
 obtain⟨sb,sc,la,lc,xa,xc,_,hc⟩:=o.at1;have hb:=o.bds;have xd:=o.slen;simp only[List.length_cons,List.length_nil] at xd;have xe:R.out.length<=40:=by have:=o.rv.i.out;rw [o.rv.v.out] at this;exact this
 show Calls prog 100 _ W fun e w'=>E8 own mb g R (R.ths.map ThR.slot,if x.1≠1 then C7 R.abs 2 else if 40<=R.out.length then C7 R.abs 7 else ⟨0,R.out++[x.2],fs.map FrR.abs++[⟨f.fn,f.pc+1,f.loc,rest⟩],R.abs.obs,R.dr⟩) W e w'
 by_cases h1:x.1=1
 ·rw [if_neg (not_not_intro h1)]
  by_cases h40:40<=R.out.length
  ·rw [if_pos h40]
   refine o.trap R3 R3 R3 R3 (o.simpleP R3 fun V hV=>?_);rw[xa,xc];exact nQ f.fn x a f.pc R4 (hc V hV).1 (hc V hV).2.1 (hc V hV).2.2 R4 (o.h.same hV) h1 h40 R4
  ·rw [if_neg h40]
   refine o.go R3 R3 R3 (drop:=1) (to:=f.pc+1) (push:=[]) (P:=fun R'=>∃ov,R'={ R with ov:=ov,out:=R.out++[x.2] }) (by rw [xd];omega) R3 (fun R' e=>?_) (o.simple R3 (fun R' e b q hq=>by obtain ⟨ov,rfl⟩:=e;exact (o.h.dro b q hq).1) fun V hV=>?_) (fun R' sv l e hfr=>?_)
   ·obtain ⟨ov,rfl⟩:=e
    exact⟨⟨f.loc,by show R.frs=_;rw [o.hf]⟩,rfl,fun b q hq=>(o.h.dro b q hq).1⟩
   ·rw [xa,xc]
    exact tV f.fn x a f.pc R4 (hc V hV).1 (hc V hV).2.1 (hc V hV).2.2 R4 (o.h.same hV) h1 R4
   ·obtain ⟨ov,rfl⟩:=e
    have xb:fs++[f]=fs++[{ f with loc:=l }]:=by rw [<- o.hf];exact hfr
    have e2:f.loc=l:=by
     have:=List.append_cancel_left xb;simp only[List.cons.injEq,and_true] at this;rw[this]
    subst e2;refine⟨rfl,Prod.ext rfl ?_,fun b q e=>⟨q,e⟩⟩;show (⟨R.st,R.out++[x.2],(fs++[_]).map FrR.abs,_,R.dr⟩:McA)=_;rw[o.st,List.map_append,List.map_cons,List.map_nil,o.stk];simp[FrR.abs,RfR.abs]
 ·rw [if_pos h1]
  refine o.trap R3 R3 R3 R3 (o.simpleP R3 fun V hV=>?_);rw[xa,xc];exact nR f.fn x a f.pc R4 (hc V hV).1 (hc V hV).2.1 (hc V hV).2.2 R4 h1
end
end
section
variable {args:List Val} {k:Nat} {x:Val}
theorem tU (R:RfR):((K1 R).map ThR.slot,(K1 R).map ThR.abs)=((U2 R.cap (R.ths.map ThR.slot) R.abs).1,(U2 R.cap (R.ths.map ThR.slot) R.abs).2.obs):=by
 unfold K1 U2;split
 ·obtain ⟨h1,h2⟩:=oD (A1 R.abs) R.ths
  rw[h1,h2];rfl
 ·rfl
theorem RV.slot_some {g:PgR} {R:RfR} {t:McA} (h:RV g R t) (hfull:¬R.cap<=(A1 R.abs).length):∃j dr,aM R.cap ((K1 R).map ThR.slot) R.dr=some (j,dr):=by
 have xf:=h.i.cap.1;have xc:=sP h.i;have xg:(A1 t).length=(A1 R.abs).length:=by rw [h.v.alive,List.length_map]
 have hV:=h.v.room h.i;have xe:(G0 t).obs.length=t.obs.length:=by
  unfold G0;split
  ·exact S4 _ _
  ·rfl
 have xb:=h.cap;have xa:=hV.pick R4 R.dr;have xd:I8 (G0 t).obs≠(G0 t).obs.length:=fun c=>hfull (by have:=xc.1 c;omega)
 obtain⟨j,hj⟩:=cM (dr:=R.dr) (show 0 < (G0 t).obs.length by omega) xd;rw[xa,xe,<- xb] at hj;have e:=congrArg Prod.fst (tU R);simp only at e;rw[e];exact⟨j.1,j.2,hj⟩
section
variable {W:World} {own:Own} {mb:Nat} {g:PgR} {R:RfR} {t:McA} {fs:List FrR} {f:FrR} {a:Int} {rest:List Val}
theorem OpR.made_end (o:OpR W own mb g R t fs f k a rest args) {drop:Nat} (hd:drop=args.length) (hfull:¬R.cap<=(A1 R.abs).length) {kind:Int} {fl:List Val} {R':RfR} {sv:Value} {l:List Val} (e:gP R kind fl R') (hfr:R'.frs=fs++[{ f with loc:=l }]) :
  R'.cap=R.cap/\(R'.ths.map ThR.slot,RfR.abs { R' with frs:=fs++[{ f with loc:=l,pc:=f.pc+1,sv:=sv,stk:=f.stk.take (f.stk.length - drop)++[(2,(R.ths.length:Int))] }] })=bB R.cap (R.ths.map ThR.slot) R.abs (fs.map FrR.abs) f.abs rest kind fl/\∀b q,R'.da=some ⟨b,q,none⟩->∃q',R.da=some ⟨b,q',none⟩:=by
 obtain⟨fv,hv,da,dc,j,dr,xe,rfl,xd⟩:=e;have xa:fs++[f]=fs++[{ f with loc:=l }]:=by rw [<- o.hf];exact hfr
 have e2:f.loc=l:=by
  have:=List.append_cancel_left xa;simp only[List.cons.injEq,and_true] at this;rw[this]
 subst e2;have hr:=tU R;have xc:=congrArg Prod.fst hr;have xb:=congrArg Prod.snd hr;simp only at xc xb;unfold bB;rw[if_neg hfull,<- xc,<- xb];rw[show R.abs.dr=R.dr from rfl,xe];refine⟨rfl,Prod.ext ?_ ?_,xd⟩
 ·show (K1 R++[_]).map ThR.slot=_
  rw[List.map_append];rfl
 ·show (⟨R.st,R.out,(fs++[_]).map FrR.abs,(K1 R++[_]).map ThR.abs,dr⟩:McA)=_
  rw[o.st,List.map_append,List.map_cons,List.map_nil,o.stk,hd,List.map_append];simp[FrR.abs,RfR.abs,ThR.abs]
theorem OpR.madeP (o:OpR W own mb g R t fs f k a rest args) {kind:Int} {fl:List Val} : ∀R',gP R kind fl R'->∀b q,R'.da=some ⟨b,q,none⟩->b < W.heap.size:=fun R' e b q hq=>by
 obtain⟨fv,hv,da,dc,j,dr,xc,rfl,xb⟩:=e;obtain⟨q',xa⟩:=xb b q hq;exact (o.h.dro b q' xa).1
theorem OpR.madeF (o:OpR W own mb g R t fs f k a rest args) {kind:Int} {fl:List Val} : ∀R',gP R kind fl R'->(∃l,R'.frs=fs++[{ f with loc:=l }])/\R'.cv=R.cv/\∀b q,R'.da=some ⟨b,q,none⟩->b < W.heap.size:=fun R' e=>by
 refine⟨?_,?_,o.madeP R' e⟩
 ·obtain ⟨fv,hv,da,dc,j,dr,xb,rfl,xa⟩:=e
  exact⟨f.loc,by show R.frs=_;rw [o.hf]⟩
 ·obtain ⟨fv,hv,da,dc,j,dr,xb,rfl,xa⟩:=e
  rfl
theorem OpR.record (o:OpR W own mb g R t fs f 16 a rest []) {P:RfR->Prop} {drop:Int} {push:List Val} {to trap:Int} (hpd:∀R',P R'->∀b q,R'.da=some ⟨b,q,none⟩->b < W.heap.size)
  (hc:∀V,L0d W V->∀x:Val,Calls prog 181 #[.pointer (some ⟨mb,0,none⟩),.agg #[.int .i64 16,.int .i64 a],.int .i64 (f.pc:Int),.agg #[.int .u8 x.1,.int .i64 x.2]] V fun e w'=>J6 own mb g P drop push to trap V e w') :
  ∀U,L0d W U->Calls prog 139 #[.pointer (some ⟨mb,0,none⟩),.agg #[.int .i64 ((16:Nat):Int),.int .i64 a],.agg #[.int .i64 (f.fn:Int),.int .i64 (f.pc:Int),f.lv,f.sv]] U fun e w'=>J6 own mb g P drop push to trap U e w':=by
 intro U hB;obtain⟨sa,sc,la,lc,xc,xd,_,_,hs,_⟩:=o.lists;have hb:=o.bds;rw[xc,xd];by_cases h0:f.stk.length=0
 ·rw [h0]
  exact xG (o.h.same hB) f.fn f.pc a (fun R' h b q e=>L0a (hpd R' h b q e) hB.size) fun V hV=>hc V (hB.trans (hV.mono hB.size)) (0,0)
 ·obtain ⟨sb,rfl,xb,_,xe⟩:=hs R4
  obtain⟨m,hm⟩:∃m,f.stk.length=m+1:=⟨f.stk.length - 1,by omega⟩
  have hx:f.stk[m]?=some f.stk[m]:=L1b R4;have xa:=xe U hB m _ hx;rw[hm];exact qK (o.h.same hB) f.fn f.pc a 16 181 (.agg #[.int .u8 f.stk[m].1,.int .i64 f.stk[m].2]) (L0a xb hB.size) xa.1 xa.2 R4 (by simp [dR]) (fun R' h b q e=>L0a (hpd R' h b q e) hB.size) fun V hV=>hc V (hB.trans (hV.mono hB.size)) f.stk[m]
theorem a1B (o:OpR W own mb g R t fs f 16 a rest []):Calls prog 100 #[.pointer (some ⟨mb,0,none⟩)] W fun e w'=>E8 own mb g R (doD g R.cap 16 a (R.ths.map ThR.slot) R.abs (fs.map FrR.abs) f.abs rest []) W e w':=by
 have hb:=o.bds;have xa:B0 a 0 8=true:=o.leg;rw[E2] at xa;obtain⟨n,rfl⟩:=L5c xa.1;have xd:=o.rv.cap;have xb:=o.rv.i.cap;show Calls prog 100 _ W fun e w'=>E8 own mb g R (bB R.cap (R.ths.map ThR.slot) R.abs (fs.map FrR.abs) f.abs rest 1 (List.replicate (n:Int).toNat (0,0))) W e w'
 rw[Int.toNat_natCast];by_cases hfull:R.cap<=(A1 R.abs).length
 ·rw [bB,if_pos hfull]
  exact o.trap R3 R3 R3 R3 (o.record o.pd fun V hV x=>(mO (o.h.same hV) o.bd o.rv.rin n x f.pc R4 hfull).mono fun _ _ hd=>hd.toQ (o.h.same hV))
 ·obtain ⟨j,dr,xc⟩:=o.rv.slot_some hfull
  exact o.go R3 R3 R3 (drop:=0) (to:=f.pc+1) (push:=[(2,(R.ths.length:Int))]) (P:=gP R 1 (List.replicate n (0,0))) R4 R5 o.madeF (o.record o.madeP fun V hV x=>qP (o.h.same hV) o.bd o.rv.rin o.rv.sl n x f.pc R4 R4 R4 R4 hfull xc) (fun R' sv l e hfr=>o.made_end rfl hfull e hfr)
theorem a3B (o:OpR W own mb g R t fs f 17 a rest [x]):Calls prog 100 #[.pointer (some ⟨mb,0,none⟩)] W fun e w'=>E8 own mb g R (doD g R.cap 17 a (R.ths.map ThR.slot) R.abs (fs.map FrR.abs) f.abs rest [x]) W e w':=by
 obtain⟨sb,sc,la,lc,xe,xd,xh,hc⟩:=o.at1;have hb:=o.bds;have xf:=o.slen;simp only[List.length_cons,List.length_nil] at xf;have xg:=o.rv.cap;have xc:=o.rv.i.cap;show Calls prog 100 _ W fun e w'=>E8 own mb g R (if x.1≠1 then (R.ths.map ThR.slot,C7 R.abs 2) else if 0<=x.2/\x.2<=12 then bB R.cap (R.ths.map ThR.slot) R.abs (fs.map FrR.abs) f.abs rest 2 (List.replicate x.2.toNat (0,0)) else (R.ths.map ThR.slot,C7 R.abs 4)) W e w'
 have xa:∀{P:RfR->Prop} {drop:Int} {push:List Val} {to trap:Int},(∀R',P R'->∀b q,R'.da=some ⟨b,q,none⟩->b < W.heap.size)->(∀V,L0d W V->Calls prog 181 #[.pointer (some ⟨mb,0,none⟩),.agg #[.int .i64 17,.int .i64 a],.int .i64 (f.pc:Int),.agg #[.int .u8 x.1,.int .i64 x.2]] V fun e w'=>J6 own mb g P drop push to trap V e w')->∀U,L0d W U->Calls prog 139 #[.pointer (some ⟨mb,0,none⟩),.agg #[.int .i64 ((17:Nat):Int),.int .i64 a],.agg #[.int .i64 (f.fn:Int),.int .i64 (f.pc:Int),f.lv,f.sv]] U fun e w'=>J6 own mb g P drop push to trap U e w':=fun hpd hcc U hB=>by
  rw[xe,xd];exact qK (o.h.same hB) f.fn f.pc a 17 181 _ (hc U hB).1 (hc U hB).2.1 (hc U hB).2.2 R4 (by simp [dR]) (fun R' h b q e=>L0a (hpd R' h b q e) hB.size) fun V hV=>hcc V (hB.trans (hV.mono hB.size))
 by_cases h1:x.1=1
 ·rw [if_neg (not_not_intro h1)]
  by_cases h2:0<=x.2/\x.2<=12
  ·rw [if_pos h2]
   obtain⟨n,hn⟩:=L5c h2.1;obtain rfl:x=(1,(n:Int)):=Prod.ext h1 hn;show Calls prog 100 _ W fun e w'=>E8 own mb g R (bB R.cap (R.ths.map ThR.slot) R.abs (fs.map FrR.abs) f.abs rest 2 (List.replicate (n:Int).toNat (0,0))) W e w'
   rw[Int.toNat_natCast];by_cases hfull:R.cap<=(A1 R.abs).length
   ·rw [bB,if_pos hfull]
    exact o.trap R3 R3 R3 R3 (xa o.pd fun V hV=>(nO (o.h.same hV) o.bd o.rv.rin n a f.pc R4 hfull).mono fun _ _ hd=>hd.toQ (o.h.same hV))
   ·obtain ⟨j,dr,xb⟩:=o.rv.slot_some hfull
    exact o.go R3 R3 R3 (drop:=1) (to:=f.pc+1) (push:=[(2,(R.ths.length:Int))]) (P:=gP R 2 (List.replicate n (0,0))) R4 R5 o.madeF (xa o.madeP fun V hV=>tT (o.h.same hV) o.bd o.rv.rin o.rv.sl n a f.pc R4 R4 R4 R4 hfull xb) (fun R' sv l e hfr=>o.made_end rfl hfull e hfr)
  ·rw [if_neg h2]
   by_cases h3:x.2 < 0
   ·exact o.trap R3 R3 R3 R3 (xa o.pd fun V hV=>(qO x a f.pc h1 h3).mono fun _ _ hd=>hd.toQ (o.h.same hV))
   ·exact o.trap R3 R3 R3 R3 (xa o.pd fun V hV=>(qN x a f.pc h1 R4).mono fun _ _ hd=>hd.toQ (o.h.same hV))
 ·rw [if_pos h1]
  exact o.trap R3 R3 R3 R3 (xa o.pd fun V hV=>(nP x a f.pc h1).mono fun _ _ hd=>hd.toQ (o.h.same hV))
theorem a5q (o:OpR W own mb g R t fs f 18 a rest [x]):Calls prog 100 #[.pointer (some ⟨mb,0,none⟩)] W fun e w'=>E8 own mb g R (doD g R.cap 18 a (R.ths.map ThR.slot) R.abs (fs.map FrR.abs) f.abs rest [x]) W e w':=by
 obtain⟨sb,sc,la,lc,xe,xd,xh,hc⟩:=o.at1;have hb:=o.bds;have xf:=o.slen;simp only[List.length_cons,List.length_nil] at xf;have xg:=o.rv.cap;have xc:=o.rv.i.cap;show Calls prog 100 _ W fun e w'=>E8 own mb g R (if x.1=2 then bB R.cap (R.ths.map ThR.slot) R.abs (fs.map FrR.abs) f.abs rest 3 [x] else (R.ths.map ThR.slot,C7 R.abs 2)) W e w'
 have xa:∀{P:RfR->Prop} {drop:Int} {push:List Val} {to trap:Int},(∀R',P R'->∀b q,R'.da=some ⟨b,q,none⟩->b < W.heap.size)->(∀V,L0d W V->Calls prog 181 #[.pointer (some ⟨mb,0,none⟩),.agg #[.int .i64 18,.int .i64 a],.int .i64 (f.pc:Int),.agg #[.int .u8 x.1,.int .i64 x.2]] V fun e w'=>J6 own mb g P drop push to trap V e w')->∀U,L0d W U->Calls prog 139 #[.pointer (some ⟨mb,0,none⟩),.agg #[.int .i64 ((18:Nat):Int),.int .i64 a],.agg #[.int .i64 (f.fn:Int),.int .i64 (f.pc:Int),f.lv,f.sv]] U fun e w'=>J6 own mb g P drop push to trap U e w':=fun hpd hcc U hB=>by
  rw[xe,xd];exact qK (o.h.same hB) f.fn f.pc a 18 181 _ (hc U hB).1 (hc U hB).2.1 (hc U hB).2.2 R4 (by simp [dR]) (fun R' h b q e=>L0a (hpd R' h b q e) hB.size) fun V hV=>hcc V (hB.trans (hV.mono hB.size))
 by_cases h1:x.1=2
 ·rw [if_pos h1]
  obtain⟨n,hn⟩:=L5c (o.ref (v:=x) R5 h1).1;obtain rfl:x=(2,(n:Int)):=Prod.ext h1 hn;by_cases hfull:R.cap<=(A1 R.abs).length
  ·rw [bB,if_pos hfull]
   exact o.trap R3 R3 R3 R3 (xa o.pd fun V hV=>(qQ (o.h.same hV) o.bd o.rv.rin n a f.pc hfull).mono fun _ _ hd=>hd.toQ (o.h.same hV))
  ·obtain ⟨j,dr,xb⟩:=o.rv.slot_some hfull
   exact o.go R3 R3 R3 (drop:=1) (to:=f.pc+1) (push:=[(2,(R.ths.length:Int))]) (P:=gP R 3 [(2,(n:Int))]) R4 R5 o.madeF (xa o.madeP fun V hV=>xQ (o.h.same hV) o.bd o.rv.rin o.rv.sl n a f.pc R4 R4 R4 hfull xb) (fun R' sv l e hfr=>o.made_end rfl hfull e hfr)
 ·rw [if_neg h1]
  exact o.trap R3 R3 R3 R3 (xa o.pd fun V hV=>(qR x a f.pc h1).mono fun _ _ hd=>hd.toQ (o.h.same hV))
theorem a5k (o:OpR W own mb g R t fs f 27 a rest []):Calls prog 100 #[.pointer (some ⟨mb,0,none⟩)] W fun e w'=>E8 own mb g R (doD g R.cap 27 a (R.ths.map ThR.slot) R.abs (fs.map FrR.abs) f.abs rest []) W e w':=by
 have hb:=o.bds;have xa:=o.fsn;refine (a1F o.h o.hf o.fn hb.2.2.2 o.gn o.cn R4 R4 o.op).mono ?_;rintro e w' ⟨rfl,hR,hT⟩;exact⟨rfl,own,_,hR,rfl,rfl,hT,fun b q e=>⟨q,e⟩⟩
theorem a1C (o:OpR W own mb g R t fs f 15 a rest [x]):Calls prog 100 #[.pointer (some ⟨mb,0,none⟩)] W fun e w'=>E8 own mb g R (doD g R.cap 15 a (R.ths.map ThR.slot) R.abs (fs.map FrR.abs) f.abs rest [x]) W e w':=by
 have hb:=o.bds;have xe:=o.fsn;show Calls prog 100 _ W fun e w'=>E8 own mb g R (R.ths.map ThR.slot,D2 R.abs (fs.map FrR.abs) x) W e w'
 by_cases h0:fs=[]
 ·have e:D2 R.abs (fs.map FrR.abs) x=⟨1,R.out,[],R.abs.obs,R.dr⟩:=by subst h0;rfl
  rw[e];refine (kC o.h o.hf o.fn hb.2.2.2 o.gn o.cn R4 R4 o.op (st:=1) (P:=fun R'=>∃cv,R'={ R with cv:=cv,frs:=[] }) fun U hB=>?_).mono ?_
  ·refine (xE (o.h.same hB) o.hf h0 o.stk R4).mono ?_
   rintro e w' ⟨rfl,cv,hR,hT⟩;exact⟨rfl,own,_,⟨cv,rfl⟩,hR,hT⟩
  ·rintro e w' ⟨rfl,xa,R',⟨cv,rfl⟩,hR,hT⟩
   exact⟨rfl,xa,_,hR,rfl,rfl,hT,fun b q e=>⟨q,e⟩⟩
 ·obtain ⟨xb,c,hc⟩:∃xb c,fs=xb++[c]:=⟨_,_,(List.dropLast_concat_getLast h0).symm⟩
  have xc:c∈R.frs:=by rw [o.hf,hc];simp
  have xd:=o.rv.frame o.hp xc;have e:D2 R.abs (fs.map FrR.abs) x=goA R.abs (xb.map FrR.abs) c.abs (c.pc+1) (c.stk++[x]):=by
   unfold D2;rw[hc,List.map_append,List.map_cons,List.map_nil,List.getLast?_concat,List.dropLast_concat];rfl
  rw[e];refine (kC o.h o.hf o.fn hb.2.2.2 o.gn o.cn R4 R4 o.op (st:=0) (P:=fun R'=>∃cv sv,R'={ R with cv:=cv,frs:=xb++[{ c with pc:=c.pc+1,sv:=sv,stk:=c.stk++[x] }] }) fun U hB=>?_).mono ?_
  ·refine (a3g (o.h.same hB) o.hf hc o.stk R4 R4 R4 R4).mono ?_
   rintro e w' ⟨rfl,xa,cv,sv,hR,hT⟩;exact⟨rfl,xa,_,⟨cv,sv,rfl⟩,hR,hT⟩
  ·rintro e w' ⟨rfl,xa,R',⟨cv,sv,rfl⟩,hR,hT⟩
   refine⟨rfl,xa,_,hR,rfl,Prod.ext rfl ?_,hT,fun b q e=>⟨q,e⟩⟩;show (⟨0,R.out,(xb++[_]).map FrR.abs,_,R.dr⟩:McA)=_;rw[List.map_append,List.map_cons,List.map_nil];rfl
theorem a5j (o:OpR W own mb g R t fs f 14 a rest args):Calls prog 100 #[.pointer (some ⟨mb,0,none⟩)] W fun e w'=>E8 own mb g R (doD g R.cap 14 a (R.ths.map ThR.slot) R.abs (fs.map FrR.abs) f.abs rest args) W e w':=by
 have hb:=o.bds;have xl:=o.fsn;have xn:=o.slen;have xo:R.frs.length=fs.length+1:=by rw [o.hf];simp
 have xj:=N6 o.leg rfl;have xb:(g.f a.toNat).p=args.length:=by have:=o.pops;simpa [O1] using this
 have e0:doD g R.cap 14 a (R.ths.map ThR.slot) R.abs (fs.map FrR.abs) f.abs rest args=(R.ths.map ThR.slot,aB g a R.abs (fs.map FrR.abs) f.abs rest args):=by
  unfold doD doA;rfl
 rw[e0];obtain⟨k,rfl⟩:=L5c xj.1;rw[Int.toNat_natCast] at xb;have hk:k < g.n:=by omega
 have xp:=o.hp.sized.bd hk;obtain⟨l,hl⟩:=L5c (show 0<=(g.f k).l by omega);unfold aB;by_cases hd:12<=(fs.map FrR.abs).length+1
 ·rw [if_pos hd]
  rw[List.length_map] at hd;refine (oQ o.h o.hf o.fn hb.2.2.2 o.gn o.cn R4 R4 o.op (st:=5) (P:=fun R'=>R'=R) fun U hB=>?_).mono ?_
  ·rw [o.ar]
   refine (xF (o.h.same hB) R4 R4 _).mono ?_;rintro e w' ⟨rfl,rfl⟩;exact⟨rfl,own,R,rfl,o.h.same hB,A2.refl _ _⟩
  ·rintro e w' ⟨rfl,xa,R',rfl,hR,hT⟩
   exact⟨rfl,xa,_,hR,rfl,rfl,hT,fun b q e=>⟨q,e⟩⟩
 ·rw [if_neg hd]
  rw[List.length_map] at hd;refine (oQ o.h o.hf o.fn hb.2.2.2 o.gn o.cn R4 R4 o.op (st:=0) (P:=fun R'=>∃cv lv sv,R'={ R with cv:=cv,frs:=fs++[{ f with sv:=sv,stk:=rest }]++[⟨k,0,lv,.slice none 0 0,args++List.replicate (l - args.length) (0,0),[]⟩] }) fun U hB=>?_).mono ?_
  ·rw [o.ar]
   obtain⟨sa,sc,la,lc,xe,xk,xh,_,hs,_⟩:=o.lists;have xf:=o.h.stk fs.length f o.hfl;by_cases xc:rest.length < sc/\∃sb,sa=some ⟨sb,0,none⟩
   ·obtain ⟨xc,sb,rfl⟩:=xc
    refine (a3h (o.h.same hB) o.hf k args.length l hk o.gn xb hl R4 R4 R4 o.stk rfl R4 xe xc).mono ?_;rintro e w' ⟨rfl,xa,cv,lv,sv,hR,hT⟩;exact⟨rfl,xa,_,⟨cv,lv,sv,rfl⟩,hR,hT⟩
   ·have xi:args=[]:=by
     refine List.length_eq_zero_iff.1 (Decidable.byContradiction fun hne=>xc ⟨by omega,?_⟩);obtain⟨sb,e,_⟩:=hs R4;exact⟨sb,e⟩
    subst xi;have xd:f.stk=rest:=by have:=o.stk;simpa using this
    have xg:(g.f k).p=0:=by simpa using xb
    rcases xf.1.2 with ⟨hn,h0⟩ | ⟨gb,cap,xm,hn,_⟩
    ·refine (a1e (o.h.same hB) o.hf k l hk o.gn xg hl R4 R4 xd R4 hn (by rw [<- xd];exact List.length_eq_zero_iff.1 h0)).mono ?_
     rintro e w' ⟨rfl,xa,cv,lv,sv,hR,hT⟩;exact⟨rfl,xa,_,⟨cv,lv,sv,rfl⟩,by simpa using hR,hT⟩
    ·rw [xe] at hn
     simp only[Value.slice.injEq] at hn;refine (a1d (sb:=gb) (o.h.same hB) o.hf k l hk o.gn xg hl R4 R4 xd R4 (by rw [xe,hn.1]) ?_).mono ?_
     ·have:¬rest.length < sc:=fun hlt=>xc ⟨hlt,gb,hn.1⟩
      rw[xd] at xh;omega
     ·rintro e w' ⟨rfl,xa,cv,lv,sv,hR,hT⟩
      exact⟨rfl,xa,_,⟨cv,lv,sv,rfl⟩,by simpa using hR,hT⟩
  ·rintro e w' ⟨rfl,xa,R',⟨cv,lv,sv,rfl⟩,hR,hT⟩
   refine⟨rfl,xa,_,hR,rfl,Prod.ext rfl ?_,hT,fun b q e=>⟨q,e⟩⟩;show (⟨0,R.out,(fs++[_]++[_]).map FrR.abs,_,R.dr⟩:McA)=_;rw[Int.toNat_natCast,hl,Int.toNat_natCast];simp[FrR.abs,RfR.abs]
end
end
section
variable {R:RfR} {W:World} {a:Int} {args rest:List Val} {cap k mb:Nat} {f:FrR} {fs:List FrR} {g:PgR} {own:Own} {s t:McA} {sl:List Int}
theorem a5o {x y:Val} (o:OpR W own mb g R t fs f 11 a rest [x,y]):Calls prog 100 #[.pointer (some ⟨mb,0,none⟩)] W fun e w'=>E8 own mb g R (doD g R.cap 11 a (R.ths.map ThR.slot) R.abs (fs.map FrR.abs) f.abs rest [x,y]) W e w':=by
 obtain⟨sb,sc,la,lc,xa,xb,_,hc⟩:=o.at2;have hb:=o.bds;have xc:=o.slen;simp only[List.length_cons,List.length_nil] at xc;refine o.goP R3 R3 R3 2 (f.pc+1) (dI:=2) (tI:=(f.pc:Int)+1) (push:=[(1,C9 (x.1 == y.1 && x.2 == y.2))]) (l:=rest++[(1,C9 (x.1 == y.1 && x.2 == y.2))]) rfl rfl R4 R5 (by rw [o.stk];simp) (o.simpleP R3 fun V hV=>?_);rw[xa,xb]
 exact a5d f.fn x y a f.pc R4 (hc V hV).1 (hc V hV).2.1 (hc V hV).2.2.1 (hc V hV).2.2.2.1 (hc V hV).2.2.2.2 R4
theorem a5r (o:OpR W own mb g R t fs f k a rest args) (hk:k < 28):Calls prog 100 #[.pointer (some ⟨mb,0,none⟩)] W fun e w'=>E8 own mb g R (doD g R.cap k a (R.ths.map ThR.slot) R.abs (fs.map FrR.abs) f.abs rest args) W e w':=by
 have hn:=o.pops;have xa:k=0\/k=1\/k=2\/k=3\/k=4\/k=5\/k=6\/k=7\/k=8\/k=9\/k=10\/k=11\/k=12\/k=13\/k=14\/k=15\/k=16\/k=17\/k=18\/k=19\/k=20\/k=21\/k=22\/k=23\/k=24\/k=25\/k=26\/k=27:=by omega
 rcases xa with rfl | rfl | rfl | rfl | rfl | rfl | rfl | rfl | rfl | rfl | rfl | rfl | rfl | rfl | rfl | rfl | rfl | rfl | rfl | rfl | rfl | rfl | rfl | rfl | rfl | rfl | rfl | rfl
 ·obtain rfl:=O6 hn rfl;exact a6r o
 ·obtain rfl:=O6 hn rfl;exact a6u o
 ·obtain rfl:=O6 hn rfl;exact a5n o
 ·obtain ⟨x,rfl⟩:=F4 hn rfl;exact a3E o
 ·obtain ⟨x,rfl⟩:=F4 hn rfl;exact a6p o
 ·obtain ⟨x,rfl⟩:=F4 hn rfl;exact a6v o
 ·obtain ⟨x,y,rfl⟩:=K0 hn rfl;exact a5p o
 ·obtain ⟨x,y,rfl⟩:=K0 hn rfl;exact a6o o
 ·obtain ⟨x,y,rfl⟩:=K0 hn rfl;exact a6y o
 ·obtain ⟨x,y,rfl⟩:=K0 hn rfl;exact a6t o
 ·obtain ⟨x,y,rfl⟩:=K0 hn rfl;exact a5m o
 ·obtain ⟨x,y,rfl⟩:=K0 hn rfl;exact a5o o
 ·obtain rfl:=O6 hn rfl;exact a5l o
 ·obtain ⟨x,rfl⟩:=F4 hn rfl;exact yC o
 ·exact a5j o
 ·obtain ⟨x,rfl⟩:=F4 hn rfl;exact a1C o
 ·obtain rfl:=O6 hn rfl;exact a1B o
 ·obtain ⟨x,rfl⟩:=F4 hn rfl;exact a3B o
 ·obtain ⟨x,rfl⟩:=F4 hn rfl;exact a5q o
 ·obtain ⟨x,rfl⟩:=F4 hn rfl;exact a6q o
 ·obtain ⟨x,y,rfl⟩:=K0 hn rfl;exact a6w o
 ·obtain ⟨x,y,rfl⟩:=K0 hn rfl;exact a6V o
 ·obtain ⟨x,y,z,rfl⟩:=yV hn rfl;exact a6x o
 ·obtain ⟨x,rfl⟩:=F4 hn rfl;exact a6s o
 ·obtain ⟨x,rfl⟩:=F4 hn rfl;exact a1D o
 ·obtain ⟨x,rfl⟩:=F4 hn rfl;exact a3C o
 ·obtain ⟨x,rfl⟩:=F4 hn rfl;exact a3D o
 ·obtain rfl:=O6 hn rfl;exact a5k o
theorem a1l : (U2 cap sl s).1.length=sl.length:=by
 unfold U2;split
 ·show (N8 _ _).length=_
  unfold N8;simp
 ·rfl
theorem a4B {fs:List FrA} {f:FrA} : (doD g cap k a sl s fs f rest args).1.length<=sl.length+1:=by
 have xa:∀kind fl,(bB cap sl s fs f rest kind fl).1.length<=sl.length+1:=fun kind fl=>by
  unfold bB;split
  ·exact Nat.le_succ _
  ·split
   ·exact Nat.le_succ _
   ·show ((U2 cap sl s).1++[_]).length<=_
    rw[List.length_append,a1l];exact L1c _
 unfold doD;split
 ·exact xa _ _
 ·split
  ·exact Nat.le_succ _
  ·split
   ·exact xa _ _
   ·exact Nat.le_succ _
 ·split
  ·exact xa _ _
  ·exact Nat.le_succ _
 ·exact Nat.le_succ _
theorem a3J (h:A8 W own mb g R) (hp:S5 g) (rv:RV g R t) (hst:R.st=0) (hn:R.ths.length<=10000000000) :
  Calls prog 100 #[.pointer (some ⟨mb,0,none⟩)] W fun e w'=>e=.returned (.tuple #[])/\∃own' R',A8 w' own' mb g R'/\RV g R' (U3 g t)/\R'.cap=R.cap/\R'.ths.length<=R.ths.length+1/\A2 own W own' w'/\∀b q,R'.da=some ⟨b,q,none⟩->∃q',R.da=some ⟨b,q',none⟩:=by
 have xk:t.st=0:=by rw [rv.v.st];exact hst
 have xp:t.frs≠[]:=rv.i.run xk;have xo:R.frs≠[]:=fun e=>xp (by rw [rv.v.frs];show (R.frs.map _).map _=[];rw [e];rfl)
 obtain⟨fs,f,hf⟩:∃fs f,R.frs=fs++[f]:=⟨_,_,(List.dropLast_concat_getLast xo).symm⟩
 have xl:R.abs.frs=fs.map FrR.abs++[f.abs]:=by show R.frs.map FrR.abs=_;rw [hf];simp
 have xh:t.frs=(fs.map FrR.abs).map (G4 (sig (R.ths.map ThR.slot)))++[G4 (sig (R.ths.map ThR.slot)) f.abs]:=by rw [rv.v.frs,xl,List.map_append];rfl
 obtain⟨k,a,xd,args',hk,o,e⟩:=rv.i.opAt hp xh;have xi:(g.f f.fn).op f.pc=(k:Int):=o.op;have xj:(g.f f.fn).ar f.pc=a:=o.ar;have xf:f.stk.map (ren (sig (R.ths.map ThR.slot)))=xd++args':=o.stk;obtain⟨rest,args,hs,rfl,rfl⟩:=List.map_eq_append_iff.1 xf;have xb:O1 k (g.f a.toNat).p=args.length:=by have:=o.pops;rwa [List.length_map] at this
 obtain⟨h1,_⟩:=rv.i.top xh;obtain⟨xr,hl,_,_⟩:=h1.at hp;have xe:E7 g.n (g.f f.fn).l (g.f f.fn).n k a=true:=by
  have:E7 g.n (g.f f.fn).l (g.f f.fn).n ((g.f f.fn).op f.pc) ((g.f f.fn).ar f.pc)=true:=hl;rwa [xi,xj] at this
 have xg:(f.loc.length:Int)=(g.f f.fn).l:=by
  have:=h1.loc;have e2:(G4 (sig (R.ths.map ThR.slot)) f.abs).loc.length=f.loc.length:=by show (f.abs.loc.map _).length=_;rw [List.length_map];rfl
  rw[e2] at this;exact this
 have O:OpR W own mb g R t fs f k a rest args:=⟨h,hp,rv,hst,hf,hs,xi,xj,xb,xe,h1.fn,xg,hn⟩;refine (a5r O hk).mono ?_;rintro e' w' ⟨rfl,own',R',hR,xc,hm,hT,xq⟩;have hS:mV g t.obs.length (R.ths.map ThR.slot,R.abs)=(R'.ths.map ThR.slot,R'.abs):=by rw [a3F xl O.opAt,<- rv.cap];exact hm.symm
 have hv:=a1I hp rv.v rv.i hst;rw[hS] at hv;have xa:=a4B (g:=g) (cap:=R.cap) (sl:=R.ths.map ThR.slot) (s:=R.abs) (fs:=fs.map FrR.abs) (f:=f.abs) (rest:=rest) (args:=args) (k:=k) (a:=a);rw[<- hm] at xa;simp only[List.length_map] at xa;have xm:L6 R'.abs.obs:=by
  have:=a3N (g:=g) (cap:=R.cap) (sl:=R.ths.map ThR.slot) (s:=R.abs) (fs:=fs.map FrR.abs) (f:=f.abs) (rest:=rest) (args:=args) (k:=k) (a:=a) rv.th (fun v hv h2=>(O.ref hv h2).1) (fun e=>by
   subst e;have xn:B0 a 0 8=true:=xe;rw[E2] at xn;omega)
  rw[<- hm] at this;exact this
 refine⟨rfl,own',R',hR,⟨hv,lV hp rv.i xk,xm,?_⟩,xc,xa,hT,xq⟩;rw[xc,qC];exact rv.cap
theorem a5i {g:PgR} {t:McA} (h:A8 W own mb g R) (hp:S5 g) (rv:RV g R t) (hn:R.ths.length<=9999990000) (fuel:Nat) (hfu:fuel<=10000) :
  Calls prog 61 #[.pointer (some ⟨mb,0,none⟩),.int .i64 (fuel:Int)] W fun e w'=>e=.returned (.tuple #[.int .i64 (E5 g fuel t:Int),.int .i64 0])/\∃own' R',A8 w' own' mb g R'/\RV g R' (K8 g fuel t)/\R'.cap=R.cap/\R'.ths.length<=R.ths.length+fuel/\A2 own W own' w'/\∀b q,R'.da=some ⟨b,q,none⟩->∃q',R.da=some ⟨b,q',none⟩:=by
 refine (a3p h fuel hfu (fun i R'=>RV g R' (K8 g i t)/\E5 g i t=i/\R'.cap=R.cap/\R'.ths.length<=R.ths.length+i/\∀b q,R'.da=some ⟨b,q,none⟩->∃q',R.da=some ⟨b,q',none⟩) ⟨rv,rfl,rfl,L1c _,fun b q e=>⟨q,e⟩⟩ fun i U own' R' hi hS h0 hR=>?_).mono ?_
 ·obtain ⟨xa,hs,hc,hl,hd⟩:=hS
  have xc:(K8 g i t).st=0:=by rw [xa.v.st];exact h0
  refine (a3J hR hp xa h0 R4).mono ?_;rintro e w' ⟨rfl,xb,xj,xd,xg,xe,xi,hT,xf⟩;refine⟨rfl,xb,xj,⟨?_,?_,by rw [xe,hc],by omega,fun b q e=>by obtain ⟨q',e'⟩:=xf b q e;exact hd b q' e'⟩,xd,hT⟩
  ·rw [jP g i t xc];exact xg
  ·have:=(mQ g i 1 t).2
   rw[this,hs,E5,if_pos xc];rfl
 ·rintro e w' ⟨n,own',R',xk,rfl,⟨xa,hs,hc,hl,hd⟩,hend,hR,hT⟩
  obtain⟨d,rfl⟩:∃d,fuel=n+d:=⟨fuel - n,by omega⟩
  have xh:K8 g (n+d) t=K8 g n t/\E5 g (n+d) t=n:=by
   obtain⟨k1,k2⟩:=mQ g n d t;rcases hend with he | he
   ·have:d=0:=by omega
    subst this;exact⟨rfl,hs⟩
   ·have xc:(K8 g n t).st≠0:=by rw [xa.v.st];exact he
    obtain⟨s1,s2⟩:=mS g xc d;exact⟨by rw [k1,s1],by rw [k2,s2,hs];rfl⟩
  rw[xh.1,xh.2];exact⟨rfl,own',R',hR,xa,hc,by omega,hT,hd⟩
end
def aK (sl:List Int) (n:Nat):Nat:=((sl.take n).filter fun x=>decide (0<=x)).length
theorem uD {sl:List Int} {i:Nat} {x:Int} (h:sl[i]?=some x):aK sl (i+1)=aK sl i+if 0<=x then 1 else 0:=by
 unfold aK;rw[List.take_add_one,h,List.filter_append,List.length_append];by_cases h0:0<=x <;> simp [h0]
theorem a1L (sl:List Int) (n:Nat):aK sl n<=n:=by
 have h1:=List.length_filter_le (fun x=>decide (0<=x)) (sl.take n);have h2:(sl.take n).length<=n:=by rw [List.length_take];omega
 unfold aK;omega
theorem tW {W:World} {own:Own} {mb:Nat} {g:PgR} {R:RfR} (h:A8 W own mb g R) (hth:R.ths.length<=100000000000) (hdn:R.dr.length<=1000) :
  Calls prog 21 #[.pointer (some ⟨mb,0,none⟩)] W fun e w'=>e=.returned (.agg #[.int .i64 R.st,.int .i64 (((R.ths.map ThR.slot).filter fun x=>decide (0<=x)).length:Int),.int .i64 (R.dr.length:Int)])/\L0d W w':=by
 have xb:=(fun (_:R.dr.length<=1000)=>h.lt _ _ h.me) hdn;have m2:=h.c2;have m6:=h.c6;obtain⟨_,ta,xr,n5,hx⟩:=h.slotsIn;rw[List.length_map] at n5 hx;have M5:=hid n5;have HX:=hid hx;have xn:mb < W.heap.size+1:=by omega
 have xh:mb < W.heap.size+1+1:=by omega
 generalize R.st=st at *
 generalize R.dr.length=nd at *
 clear h n5 hx;go_enter func21,ntmps21;go_wp2_with fail;go_region
 have hB:L0d W ((W.alloc (Obj.cells #[.int .i64 0,.int .i64 0,.int .i64 0] 63)).alloc (Obj.cells #[.int .i64 st,.int .i64 0,.int .i64 (nd:Int)] 63)).drew:=L3c (L3a (L3a (L3b _ _) (L1c _) _) R5 _);go_wp2_with fail;go_loopw [4] (fun vi wr=>∃i:Nat,i<=R.ths.length/\vi=.int .i64 i/\L0d W wr/\W.heap.size+1 < wr.heap.size/\wr.cell? ⟨W.heap.size+1,0,none⟩=some (.int .i64 st)/\wr.cell? ⟨W.heap.size+1,1,none⟩=some (.int .i64 (aK (R.ths.map ThR.slot) i:Int))/\wr.cell? ⟨W.heap.size+1,2,none⟩=some (.int .i64 (nd:Int))/\wr.frozen? ⟨W.heap.size+1,1,none⟩=false/\(∀j,j < 3->wr.cell? ⟨W.heap.size,j,none⟩=some (.int .i64 0)/\wr.frozen? ⟨W.heap.size,j,none⟩=false)) (fun vi _=>R.ths.length - (intOf vi).toNat)
 case atStart =>
  refine⟨0,L4c _,rfl,hB,by simp,by go_simp,?_,by go_simp,by go_simp,fun j hj=>?_⟩
  ·have:aK (R.ths.map ThR.slot) 0=0:=by unfold aK;simp
   rw[this];go_simp
  ·have:j=0\/j=1\/j=2:=by omega
   rcases this with rfl | rfl | rfl <;> exact ⟨by go_simp,by go_simp⟩
 case round =>
  obtain⟨i,hi,rfl,hb,xf,s0,s1,s2,sz,hz⟩:=hrel;have m5:=keep hb xb M5.out;have xs:mb < wr.heap.size:=L0a xb hb.size;have xq:=a1L (R.ths.map ThR.slot) i;obtain⟨r0,z0⟩:=hz 0 R3;obtain⟨r1,z1⟩:=hz 1 R3;obtain⟨r2,z2⟩:=hz 2 R3;have HB:=hid hb;have HZ:=hid hz;have xo:=hid s0;have xi:=hid s2;have xl:=hid sz;have xm:W.heap.size < wr.heap.size:=by omega
  by_cases hlt:i < R.ths.length
  ·obtain ⟨x,hx⟩:∃x,(R.ths.map ThR.slot)[i]?=some x:=⟨_,L1b (by rw [List.length_map];exact hlt)⟩
   obtain⟨b,rfl,xd,xa⟩:=HX.out R4;have t2:=keep hb xd (xa i x hx);have xp:b < wr.heap.size:=L0a xd hb.size;have xj:(i:Int) < (R.ths.length:Int):=by omega
   have xc:=hid (uD hx);have xk:b≠W.heap.size+1:=by omega
   by_cases h0:0<=x
   ·clear hb hz hx xa
    go_wp2_with fail;go_roundw
    case rel =>
     have xe:∀k,k≠W.heap.size+1->(wr.setCell ⟨W.heap.size+1,1,none⟩ (.int .i64 ((aK (R.ths.map ThR.slot) i:Int)+1))).heap[k]?=wr.heap[k]?:=fun k hk=>heap_setCell_other _ _ _ _ hk
     refine⟨i+1,by omega,by go_num,Below.setCell HB.out (by show W.heap.size<=W.heap.size+1;omega) _,by simpa using xf,(B7 _ R3).trans xo.out,?_,(B7 _ R3).trans xi.out,by go_simp;try exact xl.out,fun j hj=>?_⟩
     ·rw [World.cell?_setCell_same _ _ _ s1,xc.out,if_pos h0]
      go_num
     ·rw [L0b (w:=wr) (a:=⟨W.heap.size,j,none⟩) (xe _ R5),L0c (w:=wr) (a:=⟨W.heap.size,j,none⟩) (xe _ R5)]
      exact HZ.out j hj
    case measure=>simp [intOf];omega
   ·clear hb hz hx xa
    go_wp2_with fail;go_roundw
    case rel=>exact ⟨i+1,by omega,by go_num,HB.out,xf,s0,by rw [xc.out,if_neg R4];exact s1,s2,sz,HZ.out⟩
    case measure=>simp [intOf];omega
  ·obtain rfl:i=R.ths.length:=by omega
   have xg:Hid (aK (R.ths.map ThR.slot) R.ths.length=((R.ths.map ThR.slot).filter fun x=>decide (0<=x)).length):=hid (by
    unfold aK;rw[show R.ths.length=(R.ths.map ThR.slot).length by rw [List.length_map],List.take_length])
   clear hb hz;go_wp2_with fail;refine bodyPost_ret (v:=.agg #[.int .i64 st,.int .i64 (aK (R.ths.map ThR.slot) R.ths.length:Int),.int .i64 (nd:Int)]) (by simp [results,results21,go_sem,r0,r1,r2]) rfl ?_;exact⟨by rw [xg.out],Below.setCell (Below.setCell (Below.setCell HB.out (L1c _) _) (L1c _) _) (L1c _) _⟩
section
variable {M M' N N' mb yb:Nat} {P P':A3} {R:McR} {Y:PlR} {g:PgR} {own:Own} {w w':World}
theorem a5h (fuel:Int) (h:fuel < 0\/10000 < fuel):Calls prog 99 #[.pointer (some ⟨mb,0,none⟩),.int .i64 fuel] w fun e w'=>e=.returned (.tuple #[.int .i64 0,.int .i64 5])/\w'=w:=by
 have xa:B0 fuel 0 10000=false:=Y5 R4;go_enter func99,ntmps99;go_wp2_with (go_at_call 116;refine (B3 _ _ _ _).mono ?_;rintro e w' ⟨rfl,hw⟩;rw [hw,xa];clear hw w')
 go_ret2;exact⟨rfl,rfl⟩
theorem a4v (fuel:Int) (h:fuel < 0\/10000 < fuel):Calls prog 60 #[.pointer (some ⟨mb,0,none⟩),.int .i64 fuel] w fun e w'=>e=.returned (.tuple #[.int .i64 0,.int .i64 5])/\w'=w:=by
 have H:=hid (a5h (mb:=mb) (w:=w) fuel h);clear h;go_enter func60,ntmps60;go_wp2_with (go_at_call 99;refine H.out.mono ?_;rintro e w2 ⟨rfl,hw⟩;rw [hw];clear hw w2)
 go_ret2;exact⟨rfl,rfl⟩
theorem uI (h:A4 w own mb g R) (hn:R.frs.length<=1000) (hf:∀f,f∈R.frs->f.loc.length<=1000/\f.stk.length<=1000) :
  Calls prog 25 #[.pointer (some ⟨mb,0,none⟩)] w fun e w'=>kT R.frs w e w':=by
 have H:=hid (lK h hn hf);clear h;go_enter func25,ntmps25;go_wp2_with (go_at_call 47;refine H.out.mono ?_;rintro e w2 ⟨v,fl,rfl,hq⟩)
 go_ret;exact⟨v,fl,rfl,hq⟩
theorem a1V (h:A4 w own mb g R) (hn:R.obs.length<=1000) (h0:0 < R.obs.length) (hf:∀o,o∈R.obs->o.fl.length<=1000) :
  Calls prog 29 #[.pointer (some ⟨mb,0,none⟩)] w fun e w'=>kY R.obs w e w':=by
 have H:=hid (nE h hn h0 hf);clear h;go_enter func29,ntmps29;go_wp2_with (go_at_call 51;refine H.out.mono ?_;rintro e w2 ⟨v,fl,rfl,hq⟩)
 go_ret;exact⟨v,fl,rfl,hq⟩
structure kW (P:A3) (i xb cb N:Nat):Prop where
 ex:∃ox gx RX oc gc RC t,P (1,i)=U0 ox xb gx RX/\P (2,i)=cR oc cb gc RC/\Is gx t RX/\D4 gx t/\S5 gx/\Z9 gx gc/\RV gc RC t/\RC.ths.length<=N
structure L7 where
 w:World
 F:Nat->Prop
structure oU (w0:L7) (w:World):Prop where
 os:w.os=w0.w.os
 tape:w.tape=w0.w.tape
 output:w.output=w0.w.output
 size:w0.w.heap.size<=w.heap.size
 block:∀b,b < w0.w.heap.size->w0.F b->w.heap[b]?=w0.w.heap[b]?
structure Lw (w0:L7) (P:A3) (w:World) (yb:Nat) (Y:PlR) (N M:Nat):Prop where
 sep:Sep P w
 p0:P (0,0)=H9 yb Y
 law:J0 P Y
 pair:∀i p,Y.ps[i]?=some p->kW P i p.1 p.2 N
 len:∀j,(Y.l j).length<=M
 nps:Y.ps.length<=M
 bel:oU w0 w
 lo:∀i b,(P i).B b->¬(b < w0.w.heap.size/\w0.F b)
theorem aX {w0:L7} (hb:oU w0 w) (hlo:∀i b,(P i).B b->¬(b < w0.w.heap.size/\w0.F b)) (hS:Stp P w P' w'):oU w0 w'/\∀i b,(P' i).B b->¬(b < w0.w.heap.size/\w0.F b):=by
 have hs:=hb.size;refine⟨⟨hS.os.trans hb.os,hS.tape.trans hb.tape,hS.output.trans hb.output,L5a hs hS.size,fun b hb' hF=>(hS.out b R4 fun i hi=>hlo i b hi ⟨hb',hF⟩).trans (hb.block b hb' hF)⟩,fun i b hb'=>?_⟩;rcases hS.grow i b hb' with ⟨j,hj⟩ | h
 ·exact hlo j b hj
 ·exact fun e=>by have:=e.1;omega
theorem Lw.below {w0:L7} (h:Lw w0 P w yb Y N M) (hB:L0d w w'):Lw w0 P w' yb Y N M :=
 ⟨h.sep.below hB,h.p0,h.law,h.pair,h.len,h.nps,(aX h.bel h.lo (Stp.below hB)).1,h.lo⟩
theorem Lw.play {w0:L7} (h:Lw w0 P w yb Y N M):H7 w yb Y:=by have:=h.sep.F (0,0);rw [h.p0] at this;exact this
theorem Lw.mono {w0:L7} (h:Lw w0 P w yb Y N M) (hN:N<=N') (hM:M<=M'):Lw w0 P w yb Y N' M' :=
 ⟨h.sep,h.p0,h.law,fun i p hp=>by
  obtain⟨ox,gx,RX,oc,gc,RC,t,h1,h2,h3,h4,h5,h6,h7,h8⟩:=(h.pair i p hp).ex;exact⟨ox,gx,RX,oc,gc,RC,t,h1,h2,h3,h4,h5,h6,h7,by omega⟩,fun j=>L5a (h.len j) hM,L5a h.nps hM,h.bel,h.lo⟩
theorem Stp.one (i:Nat × Nat) (p:D7) (h1:w'.os=w.os) (h2:w'.tape=w.tape) (h3:w'.output=w.output) (hs:w.heap.size<=w'.heap.size) (hk:∀k,k < w.heap.size->¬(P i).B k->w'.heap[k]?=w.heap[k]?) (hB:∀k,p.B k->(P i).B k\/w.heap.size<=k):Stp P w (P.put i p) w' :=
 ⟨h1,h2,h3,hs,fun b hb hn=>hk b hb (hn i),fun j b hb=>by
  by_cases e:j=i
  ·rw [e,A3.put_same] at hb
   rcases hB b hb with h | h
   ·exact L4a ⟨i,h⟩
   ·exact L4b h
  ·rw [A3.put_ne P e] at hb
   exact L4a ⟨j,hb⟩⟩
def L7.more (w0:L7) (w:World) (G:Nat->Prop):L7:=⟨w,fun b=>(b < w0.w.heap.size/\w0.F b)\/G b⟩
theorem Lw.more {w0:L7} (h:Lw w0 P w yb Y N M) (G:Nat->Prop) (hG:∀i b,(P i).B b->¬G b):Lw (w0.more w G) P w yb Y N M :=
 ⟨h.sep,h.p0,h.law,h.pair,h.len,h.nps,⟨rfl,rfl,rfl,L1c _,fun _ _ _=>rfl⟩,fun i b hb e=>by
  rcases e.2 with e | e
  ·exact h.lo i b hb e
  ·exact hG i b hb e⟩
theorem Lw.less {w0:L7} {Y':PlR} {G:Nat->Prop} (h:Lw w0 P w yb Y N M) (h':Lw (w0.more w G) P' w' yb Y' N' M'):Lw w0 P' w' yb Y' N' M'/\∀b,b < w.heap.size->G b->w'.heap[b]?=w.heap[b]?:=by
 have hs:w0.w.heap.size<=w.heap.size:=h.bel.size;have xa:w.heap.size<=w'.heap.size:=h'.bel.size;exact⟨⟨h'.sep,h'.p0,h'.law,h'.pair,h'.len,h'.nps,⟨h'.bel.os.trans h.bel.os,h'.bel.tape.trans h.bel.tape,h'.bel.output.trans h.bel.output,L5a hs xa,fun b hb hF=>(h'.bel.block b (L0a hb hs) (L4a ⟨hb,hF⟩)).trans (h.bel.block b hb hF)⟩,fun i b hb e=>h'.lo i b hb ⟨L0a e.1 hs,L4a e⟩⟩,fun b hb hg=>h'.bel.block b hb (L4b hg)⟩
end
end Go.Proofs.YtbkmgoffiigdbaaGreatDoor
