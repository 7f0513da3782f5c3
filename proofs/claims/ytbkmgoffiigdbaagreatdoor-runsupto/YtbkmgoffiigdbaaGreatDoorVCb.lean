import Derived.Test.YtbkmgoffiigdbaaGreatDoorVAi
import Derived.Test.YtbkmgoffiigdbaaGreatDoorVCa
namespace Go.Proofs.YtbkmgoffiigdbaaGreatDoor
open Go.RowKit Go.Sort Go.Proofs.Tryz
set_option maxHeartbeats 2000000
set_option maxRecDepth 100000
theorem rC {W:World} {own:Own} {mb:Nat} {g:PgR} {R:RfR} (h:A8 W own mb g R) {j:Nat} {o:ThR} (ho:R.ths[j]?=some o) (a:Int) (pc:Nat) (hpc:pc<=1000) (hk:o.kind=3) {i:Nat} (hfl:o.fl=[(2,(i:Int))]) (hb:fI R) (hr:cI R) (hin:i∈A1 R.abs) (hn:o.fl.length<=1000) (hth:R.ths.length<=100000000000) :
  Calls prog 184 #[.pointer (some ⟨mb,0,none⟩),.agg #[.int .i64 24,.int .i64 a],.int .i64 (pc:Int),.agg #[.int .u8 2,.int .i64 (j:Int)]] W fun e w'=>C3 1 [(2,(i:Int))] ((pc:Int)+1) 0 W e w':=by
 have HK:=eG h ho;have yw:=(fun (_:pc<=1000) (_:o.fl.length<=1000) (_:R.ths.length<=100000000000)=>h.lt _ _ h.me) hpc hn hth;obtain⟨tb,tc,fa,fc,m5,yn,t1,xv,yl,xl⟩:=h.thing ho;have yq:=(L1a.1 ho).1;have xm:(j:Int) < (R.ths.length:Int):=by omega
 obtain⟨fb,rfl,yv,xc⟩:=xl (by rw [hfl];simp);obtain⟨f0,f1⟩:=xc 0 (2,(i:Int)) (by rw [hfl];rfl);rw[Nat.zero_mul] at f0 f1;have xh:o.fl.length=1:=by rw [hfl];rfl
 rw[xh] at t1;simp only at f0 f1;rw[hk] at HK;have xd:Hid (∀U,Below W.heap.size W U->Calls prog 86 #[.pointer (some ⟨mb,0,none⟩)] U fun e w'=>∃v,e=.returned v/\w'.ownsRow U.heap.size 3 1 v (A1 R.abs).length (X6 (A1 R.abs))/\Below U.heap.size U w'):=hid fun U hU=>cP (h.same hU) hb hr
 have yx:(A1 R.abs).length<=100000000000:=Nat.le_trans (eR hr) hb.ths;have xj:=cS (l:=A1 R.abs) (j:=i);generalize A1 R.abs=al at *
 have hq:¬D9 (al.map fun n:Nat=>(n:Int)) 0 (i:Int) < 0:=fun c=>xj.1 c hin
 obtain⟨xx,xw,xp,xn,xs⟩:=N2 (show fb < W.heap.size by omega);generalize hnt:R.ths.length=nt at *
 generalize hnf:o.fl.length=nf at *
 obtain⟨xt,xu,yc,xo,ya⟩:=N2 (show mb < W.heap.size by omega);obtain⟨xr,xq,yd,ye,xz⟩:=N2 (show tb < W.heap.size by omega);clear h ho xl xc xv hk hb hr xj;go_enter func184,ntmps184;go_wp2_with (go_at_call 221;refine CE (HK.out _ P4) ?_)
 go_region
 go_wp2_with fail;refine (xd.out _ P4).mono ?_;rintro e w1 ⟨v1,rfl,xk,xa⟩;obtain⟨la,lc,rfl,xb⟩:=O0 xk;have q0:w1.cell? ⟨W.heap.size+1+1+1+1,0,none⟩=some (.int .u8 2):=keep xa R5 Q9
 have q1:w1.cell? ⟨W.heap.size+1+1+1+1,1,none⟩=some (.int .i64 (i:Int)):=keep xa R5 Q9;have yh:w1.frozen? ⟨W.heap.size+1+1+1+1,0,none⟩=false:=C2 xa R5 Q9;have yu:w1.frozen? ⟨W.heap.size+1+1+1+1,1,none⟩=false:=C2 xa R5 Q9;have d0:w1.cell? ⟨W.heap.size+1+1,0,none⟩=some (.int .i64 0):=keep xa R5 Q9;have d1:w1.cell? ⟨W.heap.size+1+1,1,none⟩=some (.slice none 0 0):=keep xa R5 Q9
 have d2:w1.cell? ⟨W.heap.size+1+1,2,none⟩=some (.int .i64 0):=keep xa R5 Q9;have d3:w1.cell? ⟨W.heap.size+1+1,3,none⟩=some (.int .i64 0):=keep xa R5 Q9;have ys:w1.frozen? ⟨W.heap.size+1+1,0,none⟩=false:=C2 xa R5 Q9;have ym:w1.frozen? ⟨W.heap.size+1+1,1,none⟩=false:=C2 xa R5 Q9;have yk:w1.frozen? ⟨W.heap.size+1+1,2,none⟩=false:=C2 xa R5 Q9
 have yg:w1.frozen? ⟨W.heap.size+1+1,3,none⟩=false:=C2 xa R5 Q9;have yp:W.heap.size+1+1+1+1+1<=w1.heap.size:=(by have:=xa.size;simpa using this);have yb:W.heap.size+1+1+1+1 < w1.heap.size:=by omega
 have xf:W.heap.size+1+1 < w1.heap.size:=by omega
 have xe:W.heap.size+1+1 < w1.heap.size+1:=by omega
 have xg:W.heap.size+1+1 < w1.heap.size+1+1:=by omega
 have yf:W.heap.size+1+1 < w1.heap.size+1+1+1:=by omega
 have xy:Hid (Below W.heap.size W w1):=(hid (C6 xa P4 Q2));have xi:=(hid (fB la lc (al.map fun n:Nat=>(n:Int)) (i:Int) xb (by rw [List.length_map];omega)))
 rw[List.length_map] at xi;clear xk xa xb;generalize hTT:W.heap.size+1+1+1+1=tB at *
 generalize hDD:W.heap.size+1+1=dB at *
 have yj:tB≠dB:=by omega
 have yt:dB≠tB:=by omega
 have yo:W.heap.size<=dB:=by omega
 have yi:W.heap.size<=tB:=by omega
 have yr:W.heap.size<=w1.heap.size:=by omega
 go_wp2_with (first | (go_at_call 103;refine xi.out.mono ?_;rintro e w' ⟨rfl,hw⟩;rw [hw];clear hw w') | (go_at_call 220;refine CE (L6 _ _ (2,(i:Int)) _ hpc) ?_))
 refine bodyPost_ret (v:=.agg #[.int .i64 1,.slice (some ⟨w1.heap.size+1+1,0,none⟩) 1 1,.int .i64 ((pc:Int)+1),.int .i64 0]) (by simp [results,results184,go_sem,d0,d1,d2,d3,xf,xe,xg]) rfl ?_;refine⟨_,1,rfl,(by repeat (first | refine Below.setCell ?_ Q1 _ | refine Below.alloc ?_ Q1 _ | exact xy.out)),rfl,Or.inr ⟨w1.heap.size+1+1,1,#[.int .u8 2,.int .i64 (i:Int)],rfl,by omega,?_,L1c _,by decide,rfl,rfl⟩⟩
 exact B1 R5
theorem qZ {W:World} {own:Own} {mb:Nat} {g:PgR} {R:RfR} (h:A8 W own mb g R) {j:Nat} {o:ThR} (ho:R.ths[j]?=some o) (a:Int) (pc:Nat) (hpc:pc<=1000) (hk:o.kind=3) {i:Nat} (hfl:o.fl=[(2,(i:Int))]) (hb:fI R) (hr:cI R) (hin:i∉A1 R.abs) (hn:o.fl.length<=1000) (hth:R.ths.length<=100000000000) :
  Calls prog 184 #[.pointer (some ⟨mb,0,none⟩),.agg #[.int .i64 24,.int .i64 a],.int .i64 (pc:Int),.agg #[.int .u8 2,.int .i64 (j:Int)]] W fun e w'=>C3 1 [(0,0)] ((pc:Int)+1) 0 W e w':=by
 have HK:=eG h ho;have yz:=(fun (_:pc<=1000) (_:o.fl.length<=1000) (_:R.ths.length<=100000000000)=>h.lt _ _ h.me) hpc hn hth;obtain⟨tb,tc,fa,fc,m5,yx,t1,yf,yw,xn⟩:=h.thing ho;have yv:=(L1a.1 ho).1;have xs:(j:Int) < (R.ths.length:Int):=by omega
 obtain⟨fb,rfl,yy,xd⟩:=xn (by rw [hfl];simp);obtain⟨f0,f1⟩:=xd 0 (2,(i:Int)) (by rw [hfl];rfl);rw[Nat.zero_mul] at f0 f1;have xh:o.fl.length=1:=by rw [hfl];rfl
 rw[xh] at t1;simp only at f0 f1;rw[hk] at HK;have xj:Hid (∀U,Below W.heap.size W U->Calls prog 86 #[.pointer (some ⟨mb,0,none⟩)] U fun e w'=>∃v,e=.returned v/\w'.ownsRow U.heap.size 3 1 v (A1 R.abs).length (X6 (A1 R.abs))/\Below U.heap.size U w'):=hid fun U hU=>cP (h.same hU) hb hr
 have za:(A1 R.abs).length<=100000000000:=Nat.le_trans (eR hr) hb.ths;have xp:=cS (l:=A1 R.abs) (j:=i);generalize A1 R.abs=al at *
 have hq:D9 (al.map fun n:Nat=>(n:Int)) 0 (i:Int) < 0:=xp.2 hin;obtain⟨yj,xx,xu,yo,yd⟩:=N2 (show fb < W.heap.size by omega);generalize hnt:R.ths.length=nt at *
 generalize hnf:o.fl.length=nf at *
 obtain⟨xw,ye,xz,yb,xy⟩:=N2 (show mb < W.heap.size by omega);obtain⟨yc,yp,ys,ya,yl⟩:=N2 (show tb < W.heap.size by omega);clear h ho xn xd yf hk hb hr xp;go_enter func184,ntmps184;go_wp2_with (go_at_call 221;refine CE (HK.out _ P4) ?_)
 go_region
 go_wp2_with fail;refine (xj.out _ P4).mono ?_;rintro e w1 ⟨v1,rfl,xq,xa⟩;obtain⟨la,lc,rfl,xb⟩:=O0 xq;have q0:w1.cell? ⟨W.heap.size+1+1+1+1,0,none⟩=some (.int .u8 2):=keep xa R5 Q9
 have q1:w1.cell? ⟨W.heap.size+1+1+1+1,1,none⟩=some (.int .i64 (i:Int)):=keep xa R5 Q9;have yi:w1.frozen? ⟨W.heap.size+1+1+1+1,0,none⟩=false:=C2 xa R5 Q9;have yr:w1.frozen? ⟨W.heap.size+1+1+1+1,1,none⟩=false:=C2 xa R5 Q9;have d0:w1.cell? ⟨W.heap.size+1+1,0,none⟩=some (.int .i64 0):=keep xa R5 Q9;have d1:w1.cell? ⟨W.heap.size+1+1,1,none⟩=some (.slice none 0 0):=keep xa R5 Q9
 have d2:w1.cell? ⟨W.heap.size+1+1,2,none⟩=some (.int .i64 0):=keep xa R5 Q9;have d3:w1.cell? ⟨W.heap.size+1+1,3,none⟩=some (.int .i64 0):=keep xa R5 Q9;have ym:w1.frozen? ⟨W.heap.size+1+1,0,none⟩=false:=C2 xa R5 Q9;have xv:w1.frozen? ⟨W.heap.size+1+1,1,none⟩=false:=C2 xa R5 Q9;have xt:w1.frozen? ⟨W.heap.size+1+1,2,none⟩=false:=C2 xa R5 Q9
 have xr:w1.frozen? ⟨W.heap.size+1+1,3,none⟩=false:=C2 xa R5 Q9;have yg:W.heap.size+1+1+1+1+1<=w1.heap.size:=(by have:=xa.size;simpa using this);have yn:W.heap.size+1+1+1+1 < w1.heap.size:=by omega
 have xe:W.heap.size+1+1 < w1.heap.size:=by omega
 have xc:W.heap.size+1+1 < w1.heap.size+1:=by omega
 have xf:W.heap.size+1+1 < w1.heap.size+1+1:=by omega
 have xi:W.heap.size+1+1 < w1.heap.size+1+1+1:=by omega
 have yk:Hid (Below W.heap.size W w1):=(hid (C6 xa P4 Q2));have xl:=(hid (fB la lc (al.map fun n:Nat=>(n:Int)) (i:Int) xb (by rw [List.length_map];omega)))
 rw[List.length_map] at xl;clear xq xa xb;generalize hTT:W.heap.size+1+1+1+1=tB at *
 generalize hDD:W.heap.size+1+1=dB at *
 have yt:tB≠dB:=by omega
 have xm:dB≠tB:=by omega
 have yu:W.heap.size<=dB:=by omega
 have xk:W.heap.size<=tB:=by omega
 have yq:W.heap.size<=w1.heap.size:=by omega
 go_wp2_with fail;refine xl.out.mono ?_;rintro e w' ⟨rfl,hw⟩;rw[hw];clear hw w';go_wp2_with fail;have xg:((w1.setCell ⟨tB,0,none⟩ (.int .u8 0)).setCell ⟨tB,1,none⟩ (.int .i64 0)).heap[dB]?=w1.heap[dB]?:=by rw [heap_setCell_other _ _ _ _ xm,heap_setCell_other _ _ _ _ xm]
 rw[<- L0b (a:=⟨dB,_,none⟩) xg] at d0 d1 d2 d3;rw[<- L0c (a:=⟨dB,_,none⟩) xg] at ym xv xt xr;have yh:Hid (Below W.heap.size W ((w1.setCell ⟨tB,0,none⟩ (.int .u8 0)).setCell ⟨tB,1,none⟩ (.int .i64 0))):=hid (Below.setCell (Below.setCell yk.out xk _) xk _);have xo:((w1.setCell ⟨tB,0,none⟩ (.int .u8 0)).setCell ⟨tB,1,none⟩ (.int .i64 0)).heap.size=w1.heap.size:=by simp
 rw[<- xo] at xe xc xf xi yq;clear xg xo q0 q1 yi yr yg;generalize ((w1.setCell ⟨tB,0,none⟩ (.int .u8 0)).setCell ⟨tB,1,none⟩ (.int .i64 0))=w2 at *
 refine (L6 _ _ (0,0) _ hpc).mono ?_;rintro e w' ⟨rfl,rfl⟩;go_wp2_with fail;refine bodyPost_ret (v:=.agg #[.int .i64 1,.slice (some ⟨w2.heap.size+1+1,0,none⟩) 1 1,.int .i64 ((pc:Int)+1),.int .i64 0]) (by simp [results,results184,go_sem,d0,d1,d2,d3,xe,xc,xf]) rfl ?_;refine⟨_,1,rfl,(by repeat (first | refine Below.setCell ?_ Q1 _ | refine Below.alloc ?_ Q1 _ | exact yh.out)),rfl,Or.inr ⟨w2.heap.size+1+1,1,#[.int .u8 0,.int .i64 0],rfl,by omega,?_,L1c _,by decide,rfl,rfl⟩⟩
 exact B1 R5
section
variable {args:List Val} {ix x y:Val} {k:Nat}
theorem eU {R:RfR} {kind:Int} (hx:dZ R x) (hk:kind≠0) :
  ((A0 R.abs.obs x).1≠kind/\E5 (A0 R.abs.obs x) kind ix=2) \/
  ∃(j:Nat) (o:ThR),x=(2,(j:Int))/\R.ths[j]?=some o/\A0 R.abs.obs x=o.abs/\o.kind=kind /\
   ((ix.1≠1/\E5 o.abs kind ix=2)\/(ix.1=1/\ix.2 < 0/\E5 o.abs kind ix=3)\/(ix.1=1/\0<=ix.2/\(o.fl.length:Int)<=ix.2/\E5 o.abs kind ix=3)\/∃(i:Nat) (y:Val),ix=(1,(i:Int))/\o.fl[i]?=some y/\E5 o.abs kind ix=0):=by
 by_cases h1:(A0 R.abs.obs x).1=kind
 ·obtain ⟨j,o,e1,e2,e3⟩:=S9 hx (by rw [h1];exact hk)
  have xa:o.kind=kind:=by rw [e3] at h1;exact h1
  refine Or.inr ⟨j,o,e1,e2,e3,xa,?_⟩;have xb:o.abs.1=kind:=xa;unfold E5;by_cases i1:ix.1=1
  ·rw [if_neg (by rw [xb];simp [i1])]
   by_cases i2:ix.2 < 0
   ·exact Or.inr (Or.inl ⟨i1,i2,by rw [if_neg R4]⟩)
   ·by_cases i3:(o.fl.length:Int)<=ix.2
    ·refine Or.inr (Or.inr (Or.inl ⟨i1,by omega,i3,?_⟩))
     rw[if_neg];have e:o.abs.2.length=o.fl.length:=rfl;omega
    ·obtain ⟨i,hi⟩:=Int.eq_ofNat_of_zero_le (show 0<=ix.2 by omega)
     have hl:i < o.fl.length:=by omega
     refine Or.inr (Or.inr (Or.inr ⟨i,o.fl[i],Prod.ext i1 hi,L1b hl,?_⟩));rw[if_pos];have e:o.abs.2.length=o.fl.length:=rfl;omega
  ·exact Or.inl ⟨i1,by rw [if_pos (Or.inr i1)]⟩
 ·exact Or.inl ⟨h1,by unfold E5;rw [if_pos (Or.inl h1)]⟩
section
variable {W:World} {own:Own} {mb:Nat} {g:PgR} {R:RfR} {t:McA} {fs:List FrR} {f:FrR} {a:Int} {rest:List Val}
theorem OpR.kz (o:OpR W own mb g R t fs f k a rest args):∀q,q∈R.ths->q.kind≠0:=fun q hq e=>by have:=o.rv.kind q hq;omega
theorem zC {o:ThR} {i:Nat} (h:o.fl[i]?=some y):o.abs.2.getD (i:Int).toNat (0,0)=y:=by
 show o.fl.getD _ _=y;rw[Int.toNat_natCast,List.getD_eq_getElem?_getD,h];rfl
theorem a6m (o:OpR W own mb g R t fs f 19 a rest [x]):Calls prog 100 #[.pointer (some ⟨mb,0,none⟩)] W fun e w'=>F5 own mb g R (doD g R.cap 19 a (R.ths.map ThR.slot) R.abs (fs.map FrR.abs) f.abs rest [x]) W e w':=by
 obtain⟨sb,sc,la,lc,xe,xd,xg,hc⟩:=o.at1;have hb:=o.bds;have xf:=o.slen;simp only[List.length_cons,List.length_nil] at xf;have D:=o.doesP xe xd hc R4;have xa:A9 a 0 7=true:=o.leg;rw[E4] at xa;show Calls prog 100 _ W fun e w'=>F5 own mb g R (R.ths.map ThR.slot,bF R.abs (fs.map FrR.abs) f.abs rest x 1 (1,a)) W e w'
 unfold bF;rcases eU (ix:=(1,a)) (o.ref (v:=x) R5) (show (1:Int)≠0 by decide) with ⟨h1,h2⟩ | ⟨j,q,rfl,hq,xc,xb,hh⟩
 ·rw [h2,if_neg R3]
  exact o.trap R3 R3 R3 R3 (D fun V hV=>a1h (o.h.same hV) x a f.pc (hc V hV).1 (hc V hV).2.1 (hc V hV).2.2 R4 o.kz (o.ref R5) h1)
 ·have hn:=o.rv.fl hq
  rw[xc];rcases hh with ⟨i1,_⟩ | ⟨_,i2,_⟩ | ⟨_,_,i3,h3⟩ | ⟨i,y,hi,hy,h3⟩
  ·exact absurd rfl i1
  ·exact absurd xa.1 (by simp at i2;omega)
  ·rw [h3,if_neg R3]
   exact o.trap R3 R3 R3 R3 (D fun V hV=>xR (o.h.same hV) hq a f.pc R4 (hc V hV).1 (hc V hV).2.1 (hc V hV).2.2 R4 xb i3 R4 o.thn)
  ·obtain rfl:a=(i:Int):=congrArg Prod.snd hi
   rw[h3,if_pos rfl];refine o.goP R3 R3 R3 1 (f.pc+1) (dI:=1) (tI:=(f.pc:Int)+1) (push:=[y]) rfl rfl R4 R5 (by rw [o.stk,zC hy];simp) (D fun V hV=>a4T (o.h.same hV) hq i f.pc R4 (hc V hV).1 (hc V hV).2.1 (hc V hV).2.2 R4 xb hy R4 o.thn)
theorem a6S (o:OpR W own mb g R t fs f 21 a rest [x,ix]):Calls prog 100 #[.pointer (some ⟨mb,0,none⟩)] W fun e w'=>F5 own mb g R (doD g R.cap 21 a (R.ths.map ThR.slot) R.abs (fs.map FrR.abs) f.abs rest [x,ix]) W e w':=by
 obtain⟨sb,sc,la,lc,xd,xc,xf,hc⟩:=o.at2;have hb:=o.bds;have xe:=o.slen;simp only[List.length_cons,List.length_nil] at xe;have HT:=fun V hV=>And.intro (hc V hV).1 (hc V hV).2.2.2
 have D:=o.doesP (m:=rest.length+1) xd xc HT R4;show Calls prog 100 _ W fun e w'=>F5 own mb g R (R.ths.map ThR.slot,bF R.abs (fs.map FrR.abs) f.abs rest x 2 ix) W e w'
 unfold bF;rcases eU (ix:=ix) (o.ref (v:=x) R5) (show (2:Int)≠0 by decide) with ⟨h1,h2⟩ | ⟨j,q,rfl,hq,xb,xa,hh⟩
 ·rw [h2,if_neg R3]
  exact o.trap R3 R3 R3 R3 (D fun V hV=>a3d (o.h.same hV) x ix a f.pc (hc V hV).1 (hc V hV).2.1 (hc V hV).2.2.1 (hc V hV).2.2.2.1 (hc V hV).2.2.2.2 R4 o.kz (o.ref R5) h1)
 ·have hn:=o.rv.fl hq
  rw[xb];rcases hh with ⟨i1,h3⟩ | ⟨i1,i2,h3⟩ | ⟨i1,i2,i3,h3⟩ | ⟨i,y,hi,hy,h3⟩
  ·rw [h3,if_neg R3]
   exact o.trap R3 R3 R3 R3 (D fun V hV=>a1a (o.h.same hV) hq ix a f.pc R4 (hc V hV).1 (hc V hV).2.1 (hc V hV).2.2.1 (hc V hV).2.2.2.1 (hc V hV).2.2.2.2 R4 xa i1 R4 o.thn)
  ·rw [h3,if_neg R3]
   exact o.trap R3 R3 R3 R3 (D fun V hV=>a4S (o.h.same hV) hq ix a f.pc R4 (hc V hV).1 (hc V hV).2.1 (hc V hV).2.2.1 (hc V hV).2.2.2.1 (hc V hV).2.2.2.2 R4 xa i1 i2 R4 o.thn)
  ·rw [h3,if_neg R3]
   exact o.trap R3 R3 R3 R3 (D fun V hV=>a4R (o.h.same hV) hq ix a f.pc R4 (hc V hV).1 (hc V hV).2.1 (hc V hV).2.2.1 (hc V hV).2.2.2.1 (hc V hV).2.2.2.2 R4 xa i1 i2 i3 R4 o.thn)
  ·subst hi
   rw[h3,if_pos rfl];refine o.goP R3 R3 R3 2 (f.pc+1) (dI:=2) (tI:=(f.pc:Int)+1) (push:=[y]) rfl rfl R4 R5 (by rw [o.stk,zC hy];simp) (D fun V hV=>a6f (o.h.same hV) hq (1,(i:Int)) a i f.pc R4 (hc V hV).1 (hc V hV).2.1 (hc V hV).2.2.1 (hc V hV).2.2.2.1 (hc V hV).2.2.2.2 R4 xa rfl hy R4 o.thn)
theorem OpR.put_end (o:OpR W own mb g R t fs f k a rest args) {j i drop:Nat} {q:ThR} {y:Val} (hq:R.ths[j]?=some q) (hd:drop=args.length) {R':RfR} {sv:Value} {l:List Val} (e:R'={ R with ths:=R.ths.set j { q with fl:=q.fl.set i y } }) (hfr:R'.frs=fs++[{ f with loc:=l }]) :
  R'.cap=R.cap/\(R'.ths.map ThR.slot,RfR.abs { R' with frs:=fs++[{ f with loc:=l,pc:=f.pc+1,sv:=sv,stk:=f.stk.take (f.stk.length - drop)++[] }] })=(R.ths.map ThR.slot,(⟨0,R.abs.out,fs.map FrR.abs++[⟨f.abs.fn,f.abs.pc+1,f.abs.loc,rest⟩],R.abs.obs.set ((2,(j:Int)):Val).2.toNat (q.abs.1,q.abs.2.set (i:Int).toNat y),R.abs.dr⟩:McA))/\∀b q,R'.da=some ⟨b,q,none⟩->∃q',R.da=some ⟨b,q',none⟩:=by
 subst e;have xa:fs++[f]=fs++[{ f with loc:=l }]:=by rw [<- o.hf];exact hfr
 have e2:f.loc=l:=by
  have:=List.append_cancel_left xa;simp only[List.cons.injEq,and_true] at this;rw[this]
 subst e2;refine⟨rfl,Prod.ext ?_ ?_,fun b q e=>⟨q,e⟩⟩
 ·show (R.ths.set j _).map ThR.slot=_
  refine List.ext_getElem? fun p=>?_
  rw[List.getElem?_map,List.getElem?_map,List.getElem?_set];split
  ·rename_i e
   subst e;split
   ·rw [hq];rfl
   ·rename_i hlt
    rw[List.getElem?_eq_none R4]
  ·rfl
 ·show (⟨R.st,R.out,(fs++[_]).map FrR.abs,(R.ths.set j _).map ThR.abs,R.dr⟩:McA)=_
  rw[o.st,List.map_append,List.map_cons,List.map_nil,o.stk,hd];rw[List.map_set];simp[FrR.abs,RfR.abs,ThR.abs]
theorem a6s (o:OpR W own mb g R t fs f 20 a rest [x,y]):Calls prog 100 #[.pointer (some ⟨mb,0,none⟩)] W fun e w'=>F5 own mb g R (doD g R.cap 20 a (R.ths.map ThR.slot) R.abs (fs.map FrR.abs) f.abs rest [x,y]) W e w':=by
 obtain⟨sb,sc,la,lc,xd,xb,xf,hc⟩:=o.at2;have hb:=o.bds;have xe:=o.slen;simp only[List.length_cons,List.length_nil] at xe;have HT:=fun V hV=>And.intro (hc V hV).1 (hc V hV).2.2.2
 have D:=o.doesP (m:=rest.length+1) xd xb HT R4;have xa:A9 a 0 7=true:=o.leg;rw[E4] at xa;show Calls prog 100 _ W fun e w'=>F5 own mb g R (R.ths.map ThR.slot,setE R.abs (fs.map FrR.abs) f.abs rest x 1 (1,a) y) W e w'
 unfold setE;rcases eU (ix:=(1,a)) (o.ref (v:=x) R5) (show (1:Int)≠0 by decide) with ⟨h1,h2⟩ | ⟨j,q,rfl,hq,xg,xc,hh⟩
 ·rw [h2,if_neg R3]
  exact o.trap R3 R3 R3 R3 (D fun V hV=>a1m (o.h.same hV) x y a f.pc (hc V hV).1 (hc V hV).2.1 (hc V hV).2.2.1 (hc V hV).2.2.2.1 (hc V hV).2.2.2.2 R4 o.kz (o.ref R5) h1)
 ·have hn:=o.rv.fl hq
  rw[xg];rcases hh with ⟨i1,_⟩ | ⟨_,i2,_⟩ | ⟨_,_,i3,h3⟩ | ⟨i,z,hi,hz,h3⟩
  ·exact absurd rfl i1
  ·exact absurd xa.1 (by simp at i2;omega)
  ·rw [h3,if_neg R3]
   exact o.trap R3 R3 R3 R3 (D fun V hV=>xU (o.h.same hV) hq y a f.pc R4 (hc V hV).1 (hc V hV).2.1 (hc V hV).2.2.1 (hc V hV).2.2.2.1 (hc V hV).2.2.2.2 R4 xc i3 R4 o.thn)
  ·obtain rfl:a=(i:Int):=congrArg Prod.snd hi
   rw[h3,if_pos rfl];refine o.go R3 R3 R3 (drop:=2) (to:=f.pc+1) (push:=[]) (P:=fun R'=>R'={ R with ths:=R.ths.set j { q with fl:=q.fl.set i y } }) (by rw [xe];omega) R3 (fun R' e=>?_) (fun U hB=>?_) (fun R' sv l e hfr=>o.put_end hq rfl e hfr)
   ·subst e
    exact⟨⟨f.loc,by show R.frs=_;rw [o.hf]⟩,rfl,fun b q hq=>(o.h.dro b q hq).1⟩
   ·exact o.does (m:=rest.length+1) xd xb HT R4 (fun R' e b q hq=>by subst e;exact (o.h.dro b q hq).1) (fun V hV=>a4W (o.h.same hV) hq y i f.pc R4 (fun b hb' e=>by rw [e,hb'] at xf;cases xf) (hc V hV).1 (hc V hV).2.1 (hc V hV).2.2.1 (hc V hV).2.2.2.1 (hc V hV).2.2.2.2 R4 xc hz R4 o.thn) (by simp [eD];try rfl) U hB
theorem a6t (o:OpR W own mb g R t fs f 22 a rest [x,ix,y]):Calls prog 100 #[.pointer (some ⟨mb,0,none⟩)] W fun e w'=>F5 own mb g R (doD g R.cap 22 a (R.ths.map ThR.slot) R.abs (fs.map FrR.abs) f.abs rest [x,ix,y]) W e w':=by
 obtain⟨sb,sc,la,lc,xc,xb,xe,hc⟩:=o.at3;have hb:=o.bds;have xd:=o.slen;simp only[List.length_cons,List.length_nil] at xd;have HT:=fun V hV=>And.intro (hc V hV).1 (hc V hV).2.2.2.2.2
 have D:=o.doesP (m:=rest.length+2) xc xb HT R4;show Calls prog 100 _ W fun e w'=>F5 own mb g R (R.ths.map ThR.slot,setE R.abs (fs.map FrR.abs) f.abs rest x 2 ix y) W e w'
 unfold setE;rcases eU (ix:=ix) (o.ref (v:=x) R5) (show (2:Int)≠0 by decide) with ⟨h1,h2⟩ | ⟨j,q,rfl,hq,xf,xa,hh⟩
 ·rw [h2,if_neg R3]
  exact o.trap R3 R3 R3 R3 (D fun V hV=>a1q (o.h.same hV) x ix y a f.pc (hc V hV).1 (hc V hV).2.1 (hc V hV).2.2.1 (hc V hV).2.2.2.1 (hc V hV).2.2.2.2.1 (hc V hV).2.2.2.2.2.1 (hc V hV).2.2.2.2.2.2 R4 o.kz (o.ref R5) h1)
 ·have hn:=o.rv.fl hq
  rw[xf];rcases hh with ⟨i1,h3⟩ | ⟨i1,i2,h3⟩ | ⟨i1,i2,i3,h3⟩ | ⟨i,z,hi,hz,h3⟩
  ·rw [h3,if_neg R3]
   exact o.trap R3 R3 R3 R3 (D fun V hV=>xY (o.h.same hV) hq ix y a f.pc R4 (hc V hV).1 (hc V hV).2.1 (hc V hV).2.2.1 (hc V hV).2.2.2.1 (hc V hV).2.2.2.2.1 (hc V hV).2.2.2.2.2.1 (hc V hV).2.2.2.2.2.2 R4 xa i1 R4 o.thn)
  ·rw [h3,if_neg R3]
   exact o.trap R3 R3 R3 R3 (D fun V hV=>a3s (o.h.same hV) hq ix y a f.pc R4 (hc V hV).1 (hc V hV).2.1 (hc V hV).2.2.1 (hc V hV).2.2.2.1 (hc V hV).2.2.2.2.1 (hc V hV).2.2.2.2.2.1 (hc V hV).2.2.2.2.2.2 R4 xa i1 i2 R4 o.thn)
  ·rw [h3,if_neg R3]
   exact o.trap R3 R3 R3 R3 (D fun V hV=>a3r (o.h.same hV) hq ix y a f.pc R4 (hc V hV).1 (hc V hV).2.1 (hc V hV).2.2.1 (hc V hV).2.2.2.1 (hc V hV).2.2.2.2.1 (hc V hV).2.2.2.2.2.1 (hc V hV).2.2.2.2.2.2 R4 xa i1 i2 i3 R4 o.thn)
  ·subst hi
   rw[h3,if_pos rfl];refine o.go R3 R3 R3 (drop:=3) (to:=f.pc+1) (push:=[]) (P:=fun R'=>R'={ R with ths:=R.ths.set j { q with fl:=q.fl.set i y } }) (by rw [xd];omega) R3 (fun R' e=>?_) (fun U hB=>?_) (fun R' sv l e hfr=>o.put_end hq rfl e hfr)
   ·subst e
    exact⟨⟨f.loc,by show R.frs=_;rw [o.hf]⟩,rfl,fun b q hq=>(o.h.dro b q hq).1⟩
   ·exact o.does (m:=rest.length+2) xc xb HT R4 (fun R' e b q hq=>by subst e;exact (o.h.dro b q hq).1) (fun V hV=>a5b (o.h.same hV) hq (1,(i:Int)) y a i f.pc R4 (fun b hb' e=>by rw [e,hb'] at xe;cases xe) (hc V hV).1 (hc V hV).2.1 (hc V hV).2.2.1 (hc V hV).2.2.2.1 (hc V hV).2.2.2.2.1 (hc V hV).2.2.2.2.2.1 (hc V hV).2.2.2.2.2.2 R4 xa rfl hz R4 o.thn) (by simp [eD];try rfl) U hB
theorem a6o (o:OpR W own mb g R t fs f 23 a rest [x]):Calls prog 100 #[.pointer (some ⟨mb,0,none⟩)] W fun e w'=>F5 own mb g R (doD g R.cap 23 a (R.ths.map ThR.slot) R.abs (fs.map FrR.abs) f.abs rest [x]) W e w':=by
 obtain⟨sb,sc,la,lc,xa,xc,xe,hc⟩:=o.at1;have hb:=o.bds;have xb:=o.slen;simp only[List.length_cons,List.length_nil] at xb;have D:=o.doesP xa xc hc R4;show Calls prog 100 _ W fun e w'=>F5 own mb g R (R.ths.map ThR.slot,if (A0 R.abs.obs x).1=1\/(A0 R.abs.obs x).1=2 then goA R.abs (fs.map FrR.abs) f.abs (f.pc+1) (rest++[(1,((A0 R.abs.obs x).2.length:Int))]) else C7 R.abs 2) W e w'
 by_cases hk:(A0 R.abs.obs x).1=1\/(A0 R.abs.obs x).1=2
 ·rw [if_pos hk]
  obtain⟨j,q,rfl,hq,xd⟩:=S9 (o.ref (v:=x) R5) R4;have hn:=o.rv.fl hq;rw[xd] at hk ⊢;refine o.goP R3 R3 R3 1 (f.pc+1) (dI:=1) (tI:=(f.pc:Int)+1) (push:=[(1,(q.fl.length:Int))]) rfl rfl R4 R5 (by rw [o.stk];simp [ThR.abs]) (D fun V hV=>a4U (o.h.same hV) hq a f.pc R4 hk R4 o.thn)
 ·rw [if_neg hk]
  exact o.trap R3 R3 R3 R3 (D fun V hV=>a1i (o.h.same hV) x a f.pc o.rv.kind (o.ref R5) (fun e=>hk (Or.inl e)) (fun e=>hk (Or.inr e)))
theorem a1B (o:OpR W own mb g R t fs f 24 a rest [x]):Calls prog 100 #[.pointer (some ⟨mb,0,none⟩)] W fun e w'=>F5 own mb g R (doD g R.cap 24 a (R.ths.map ThR.slot) R.abs (fs.map FrR.abs) f.abs rest [x]) W e w':=by
 obtain⟨sb,sc,la,lc,xj,xi,xl,hc⟩:=o.at1;have hb:=o.bds;have xk:=o.slen;simp only[List.length_cons,List.length_nil] at xk;have D:=o.doesP xj xi hc R4;show Calls prog 100 _ W fun e w'=>F5 own mb g R (R.ths.map ThR.slot,if (A0 R.abs.obs x).1=3 then goA R.abs (fs.map FrR.abs) f.abs (f.pc+1) (rest++[O4 R.abs ((A0 R.abs.obs x).2.headD (0,0))]) else C7 R.abs 2) W e w'
 by_cases hk:(A0 R.abs.obs x).1=3
 ·rw [if_pos hk]
  obtain⟨j,q,rfl,hq,xg⟩:=S9 (o.ref (v:=x) R5) R4;have hn:=o.rv.fl hq;have xh:=o.rv.sl.weak q (L2a hq);have xf:=o.rv.rin.flds q (L2a hq);rw[xg] at hk ⊢;have xa:q.kind=3:=hk;obtain⟨v,hv⟩:=List.length_eq_one_iff.1 (xh xa);have hh:(q.abs.2.headD (0,0))=v:=by show q.fl.headD (0,0)=v;rw [hv];rfl
  rw[hh];by_cases h2:v.1=2
  ·obtain ⟨h0,_⟩:=xf v (by rw [hv];simp) h2
   obtain⟨i,hi⟩:=Int.eq_ofNat_of_zero_le h0;obtain rfl:v=(2,(i:Int)):=Prod.ext h2 hi;by_cases hal:i∈A1 R.abs
   ·have e:O4 R.abs (2,(i:Int))=(2,(i:Int)):=if_pos ⟨rfl,by simpa using hal⟩
    rw[e];refine o.goP R3 R3 R3 1 (f.pc+1) (dI:=1) (tI:=(f.pc:Int)+1) (push:=[(2,(i:Int))]) rfl rfl R4 R5 (by rw [o.stk];simp) (D fun V hV=>rC (o.h.same hV) hq a f.pc R4 xa hv o.bd o.rv.rin hal R4 o.thn)
   ·have e:O4 R.abs (2,(i:Int))=(0,0):=if_neg fun hc=>hal (by simpa using hc.2)
    rw[e];refine o.goP R3 R3 R3 1 (f.pc+1) (dI:=1) (tI:=(f.pc:Int)+1) (push:=[(0,0)]) rfl rfl R4 R5 (by rw [o.stk];simp) (D fun V hV=>qZ (o.h.same hV) hq a f.pc R4 xa hv o.bd o.rv.rin hal R4 o.thn)
  ·have xd:=o.rv.v.vals (2,(j:Int)) (E0.2 ⟨f.abs,by rw [o.hfA];simp,by show _∈f.loc++f.stk;rw [o.stk];simp⟩) rfl
   obtain⟨p,xb,xc⟩:=o.rv.v.get xd.2;have e1:p=q.abs:=by
    have:R.abs.obs[((2,(j:Int)):Val).2.toNat]?=some q.abs:=by show (R.ths.map ThR.abs)[(j:Int).toNat]?=_;rw [Int.toNat_natCast,List.getElem?_map,hq];rfl
    rw[this] at xb;exact (Option.some.inj xb).symm
   subst e1;have hw:=(jD o.rv.i xc hk).2;have e2:((q.abs.1,q.abs.2.map (ren (sig (R.ths.map ThR.slot)))):Ob).2.headD (0,0)=v:=by
    show (q.fl.map _).headD _=v;rw[hv];exact G2 h2
   rw[e2] at hw;have xe:=hw h2;subst xe;have e:O4 R.abs (0,0)=(0,0):=if_neg fun hc=>by cases hc.1
   rw[e];refine o.goP R3 R3 R3 1 (f.pc+1) (dI:=1) (tI:=(f.pc:Int)+1) (push:=[(0,0)]) rfl rfl R4 R5 (by rw [o.stk];simp) (D fun V hV=>nY (o.h.same hV) hq a f.pc R4 xa hv h2 R4 o.thn)
 ·rw [if_neg hk]
  exact o.trap R3 R3 R3 R3 (D fun V hV=>rA (o.h.same hV) x a f.pc o.rv.kind (o.ref R5) hk)
end
end
end Go.Proofs.YtbkmgoffiigdbaaGreatDoor
