import Derived.Test.YtbkmgoffiigdbaaGreatDoorYCh
import Derived.Test.YtbkmgoffiigdbaaGreatDoorYCf
namespace Go.Proofs.YtbkmgoffiigdbaaGreatDoor
open Go.RowKit Go.Sort Go.Proofs.Tryz
set_option maxHeartbeats 4000000
set_option maxRecDepth 100000
section
variable {M N cb i mb xb yb:Nat} {P:A3} {Y:PlR} {w w':World} {w0:L7}
theorem iR {own own':Own} {g:PgR} {R R':RfR} (hT:A2 own w own' w') (hda:∀b q,R'.da=some ⟨b,q,none⟩->∃q',R.da=some ⟨b,q',none⟩) :
  (∀k,k < w.heap.size->¬(cR own mb g R).B k->w'.heap[k]?=w.heap[k]?)/\∀k,(cR own' mb g R').B k->(cR own mb g R).B k\/w.heap.size<=k:=by
 refine⟨fun k hk hn=>hT.block k hk (Decidable.byContradiction fun e=>hn (L4a e)),fun k hk=>?_⟩;by_cases hl:w.heap.size<=k
 ·exact L4b hl
 ·rcases hk with hk | hk | ⟨o,hk⟩
  ·rw [hT.old k R4] at hk;exact L4a (L4a hk)
  ·exact L4a (L4b (L4a hk))
  ·obtain ⟨q',hq⟩:=hda k o hk
   exact L4a (L4b (L4b ⟨q',hq⟩))
theorem H5 {a b:Nat} (h:a≠b) (i j:Nat):((a,i):Nat × Nat)≠(b,j):=fun e=>h (by simp only [Prod.mk.injEq] at e;exact e.1)
theorem Lw.put2 {N':Nat} {p q:D7} (h:Lw w0 P w yb Y N M) (hN:N<=N') (hi:Y.ps[i]?=some (xb,cb)) (hS:Sep ((P.put (1,i) p).put (2,i) q) w') (hT:Stp P w ((P.put (1,i) p).put (2,i) q) w') (hp:kW ((P.put (1,i) p).put (2,i) q) i xb cb N'):Lw w0 ((P.put (1,i) p).put (2,i) q) w' yb Y N' M:=by
 obtain⟨hb,xa⟩:=aX h.bel h.lo hT;refine⟨hS,?_,⟨h.law.1,fun j q nb h1 h5 hq=>?_⟩,fun j r hr=>?_,h.len,h.nps,hb,xa⟩
 ·rw [A3.put_ne _ (H5 R3 _ _),A3.put_ne _ (H5 R3 _ _)];exact h.p0
 ·rw [A3.put_ne _ (H5 R4 _ _),A3.put_ne _ (H5 R4 _ _)]
  exact h.law.2 j q nb h1 h5 hq
 ·by_cases e:j=i
  ·subst e
   rw[hi] at hr;obtain rfl:=L5b hr;exact hp
  ·obtain ⟨ox,gx,RX,oc,gc,RC,t,h1,h2,h3,h4,h5,h6,h7,h8⟩:=(h.pair j r hr).ex
   have n1:((1,j):Nat × Nat)≠(1,i):=fun e'=>e (by simp only [Prod.mk.injEq] at e';exact e'.2)
   have n2:((2,j):Nat × Nat)≠(2,i):=fun e'=>e (by simp only [Prod.mk.injEq] at e';exact e'.2)
   refine⟨ox,gx,RX,oc,gc,RC,t,?_,?_,h3,h4,h5,h6,h7,by omega⟩
   ·rw [A3.put_ne _ (H5 R3 _ _),A3.put_ne _ n1];exact h1
   ·rw [A3.put_ne _ n2,A3.put_ne _ (H5 R3 _ _)];exact h2
theorem a3a (h:Lw w0 P w yb Y N M) (hi:Y.ps[i]?=some (xb,cb)) (hN:N<=9999990000) (fuel:Nat) (hf:fuel<=10000) :
  ∃n:Nat,∀U,L0d w U->Calls prog 60 #[.pointer (some ⟨xb,0,none⟩),.int .i64 (fuel:Int)] U fun e w1=>e=.returned (.tuple #[.int .i64 (n:Int),.int .i64 0])/\U.heap.size<=w1.heap.size/\(∀k,k < U.heap.size->w.heap.size<=k->w1.heap[k]?=U.heap[k]?) /\
   ∀V,L0d w1 V->Calls prog 61 #[.pointer (some ⟨cb,0,none⟩),.int .i64 (fuel:Int)] V fun e w2=>e=.returned (.tuple #[.int .i64 (n:Int),.int .i64 0])/\∃P2,Lw w0 P2 w2 yb Y (N+fuel) M:=by
 obtain⟨ox,gx,RX,oc,gc,RC,t,h1,h2,h3,h4,h5,h6,h7,h8⟩:=(h.pair i (xb,cb) hi).ex;refine⟨E5 gx fuel t,fun U hU=>?_⟩;have xk:=h.below hU;have hM:A4 U ox xb gx RX:=by have:=xk.sep.F (1,i);rw [h1] at this;exact this
 have xn:A4 w ox xb gx RX:=by have:=h.sep.F (1,i);rw [h1] at this;exact this
 have xj:=oO h5 h6 fuel h4;refine (a1v h5 h4 h3 hM fuel hf).mono ?_;rintro e w1 ⟨xd,xc,rfl,xr,xi,hT⟩;obtain⟨k1,k2⟩:=bT (R':=xc) hM hT;have xo:=xk.sep.upd (1,i) (U0 xd xb gx xc) hT.size (by rw [h1];exact k1) xr (by rw [h1];exact k2);have xu:Stp P U (P.put (1,i) (U0 xd xb gx xc)) w1:=Stp.one (1,i) _ hT.os hT.tape hT.output hT.size (by rw [h1];exact k1) (by rw [h1];exact k2)
 refine⟨rfl,hT.size,fun k hk hk2=>hT.block k hk ?_,fun V hV=>?_⟩
 ·cases e:ox k with
  | none=>rfl
  | some q=>have:=xn.lt k q e;omega
 ·have xl:=xo.below hV
  have hR:A8 V oc cb gc RC:=by
   have:=xl.F (2,i);rw[A3.put_ne _ (H5 R3 _ _),h2] at this;exact this
  refine (a5i hR (h6.pgOk h5) h7 R4 fuel hf).mono ?_;rintro e w2 ⟨rfl,xh,xe,xq,xg,xm,xp,xa,xt⟩;obtain⟨q1,q2⟩:=iR (g:=gc) (mb:=cb) (R:=RC) (R':=xe) xa xt;have e2:(P.put (1,i) (U0 xd xb gx xc)) (2,i)=cR oc cb gc RC:=by rw [A3.put_ne _ (H5 R3 _ _)];exact h2
  have xs:=xl.upd (2,i) (cR xh cb gc xe) xa.size (by rw [e2];exact q1) xq (by rw [e2];exact q2);have xf:=Stp.one (P:=P.put (1,i) (U0 xd xb gx xc)) (2,i) (cR xh cb gc xe) xa.os xa.tape xa.output xa.size (by rw [e2];exact q1) (by rw [e2];exact q2);refine⟨by rw [xj.2],_,h.put2 R4 hi xs (((Stp.below hU).trans xu).trans ((Stp.below hV).trans xf)) ⟨xd,gx,xc,xh,gc,xe,K8 gx fuel t,?_,A3.put_same _ _ _,xi,pU h5 fuel h4,h5,h6,?_,by omega⟩⟩
  ·rw [A3.put_ne _ (H5 R3 _ _),A3.put_same]
  ·rw [<- xj.1];exact xg
theorem a3q {W:World} (fuel:Int) (h:fuel < 0\/10000 < fuel):Calls prog 61 #[.pointer (some ⟨mb,0,none⟩),.int .i64 fuel] W fun e w'=>e=.returned (.tuple #[.int .i64 0,.int .i64 5])/\w'=W:=by
 rcases h with h | h
 ·exact a3r fuel h
 ·exact a1p fuel h
theorem a6e (h:Lw w0 P w yb Y N M) (hi:Y.ps[i]?=some (xb,cb)) (hN:N<=9999990000) (a b:Int) (fa la sa:Option Addr) (fn fc ln lc sn sc:Nat) :
  Calls prog 35 #[.pointer (some ⟨yb,0,none⟩),.agg #[.pointer (some ⟨xb,0,none⟩),.pointer (some ⟨cb,0,none⟩)],.agg #[.int .i64 2,.int .i64 a,.int .i64 b,.slice fa fn fc,.slice la ln lc,.slice sa sn sc]] w fun e w'=>e=.returned (.bool true)/\∃P2,Lw w0 P2 w' yb Y (N+10000) M:=by
 by_cases hb:0<=b/\b<=10000
 ·obtain ⟨xc,rfl⟩:=L5c hb.1
  obtain⟨n,xd⟩:=a3a h hi hN xc R4;have HR:=hid xd;have HF:Hid (xc<=10000):=hid R4;clear xd h hi hb;go_enter func35,ntmps35;go_wp2_with (first | (go_at_call 60;refine (HR.out _ P8).mono ?_;rintro e w1 ⟨rfl,xh,xe,xa⟩;have c1:w1.cell? ⟨w.heap.size,1,none⟩=some (.pointer (some ⟨cb,0,none⟩)):=(L0b (a:=⟨w.heap.size,1,none⟩) (xe w.heap.size Q8 (L1c _))).trans Q9;have c2:w1.cell? ⟨w.heap.size+1,2,none⟩=some (.int .i64 (xc:Int)):=(L0b (a:=⟨w.heap.size+1,2,none⟩) (xe (w.heap.size+1) R5 R4)).trans Q9;have HC:=hid (xa _ (L3b _ _));clear xa xe) | (go_at_call 61;refine HC.out.mono ?_;rintro e w2 ⟨rfl,P2,xg⟩;have HL:=hid xg;clear xg))
  go_ret;exact⟨rfl,P2,HL.out.mono (by have:=HF.out;omega) (L1c _)⟩
 ·have xf:b < 0\/10000 < b:=by omega
  have HL:=hid h;clear h hi;go_enter func35,ntmps35;go_wp2_with (first | (go_at_call 60;refine (a4v b xf).mono ?_;rintro e w1 ⟨rfl,hw⟩;rw [hw];clear hw w1) | (go_at_call 61;refine (a3q b xf).mono ?_;rintro e w2 ⟨rfl,hw⟩;rw [hw];clear hw w2))
  go_ret;exact⟨rfl,P,(HL.out.below P8).mono R4 (L1c _)⟩
end
section
variable {W:World} {a b:Option Addr} {ca cb:Nat} {l:List Val}
def FrV (W:World) (a:Option Addr) (l:List FrA):Prop :=
 0 < l.length->∃b,a=some ⟨b,0,none⟩/\b < W.heap.size/\∀(i:Nat) (f:FrA),l[i]?=some f->∃la lc sa sc,W.cell? ⟨b,i*4,none⟩=some (.int .i64 (f.fn:Int))/\W.cell? ⟨b,i*4+1,none⟩=some (.int .i64 (f.pc:Int))/\W.cell? ⟨b,i*4+2,none⟩=some (.slice la f.loc.length lc)/\W.cell? ⟨b,i*4+3,none⟩=some (.slice sa f.stk.length sc)/\O5 W W.heap.size la f.loc/\O5 W W.heap.size sa f.stk
def ObV (W:World) (a:Option Addr) (l:List Ob):Prop :=
 0 < l.length->∃b,a=some ⟨b,0,none⟩/\b < W.heap.size/\∀(i:Nat) (o:Ob),l[i]?=some o->∃fa fc,W.cell? ⟨b,i*2,none⟩=some (.int .u8 o.1)/\W.cell? ⟨b,i*2+1,none⟩=some (.slice fa o.2.length fc)/\O5 W W.heap.size fa o.2
theorem O5.here {U:World} (h:O5 W W.heap.size a l) (hB:L0d W U):O5 U U.heap.size a l:=(h.later hB).mono hB.size
theorem nV {l:List Int} (ha:J2 W a l) (hb:J2 W b l) (hn:l.length<=1000000) :
  Calls prog 23 #[.slice a l.length ca,.slice b l.length cb] W fun e w'=>e=.returned (.bool true)/\L0d W w':=by
 have HA:=hid ha;have HB:=hid hb;clear ha hb;go_enter func23,ntmps23;go_wp2_with fail;go_loopw [5] (fun vi wr=>∃i:Nat,i<=l.length/\vi=.int .i64 i/\L0d W wr) (fun vi _=>l.length - (intOf vi).toNat)
 case atStart=>exact ⟨0,L4c _,rfl,L3b _ _⟩
 case round =>
  obtain⟨i,hi,rfl,xa⟩:=hrel;have xb:=hid xa;by_cases hlt:i < l.length
  ·obtain ⟨x,hx⟩:∃x,l[i]?=some x:=⟨_,L1b hlt⟩
   obtain⟨b1,o1,rfl,xe,xd⟩:=HA.out R4;obtain⟨b2,o2,rfl,xf,xc⟩:=HB.out R4;have x1:=keep xa xe (xd i x hx);have x2:=keep xa xf (xc i x hx);have xg:(i:Int) < (l.length:Int):=by omega
   clear xd xc xa;go_wp2_with fail;go_region
   all_goals go_wp2_with fail
   all_goals go_roundw
   case rel=>exact ⟨i+1,by omega,by go_num,by repeat (first | exact xb.out | refine L3c ?_)⟩
   case measure=>simp [intOf];omega
  ·obtain rfl:i=l.length:=by omega
   have xh:¬(l.length:Int) < (l.length:Int):=by omega
   clear xa;go_wp2_with fail;go_ret;exact⟨rfl,xb.out⟩
theorem aJ (ha:O5 W W.heap.size a l) (hb:O5 W W.heap.size b l) (hn:l.length<=1000000) :
  Calls prog 48 #[.slice a l.length ca,.slice b l.length cb] W fun e w'=>e=.returned (.bool true)/\L0d W w':=by
 have HA:=hid ha;have HB:=hid hb;clear ha hb;go_enter func48,ntmps48;go_wp2_with fail;go_loopw [5] (fun vi wr=>∃i:Nat,i<=l.length/\vi=.int .i64 i/\L0d W wr) (fun vi _=>l.length - (intOf vi).toNat)
 case atStart=>exact ⟨0,L4c _,rfl,L3b _ _⟩
 case round =>
  obtain⟨i,hi,rfl,xa⟩:=hrel;have xb:=hid xa;by_cases hlt:i < l.length
  ·obtain ⟨x,hx⟩:∃x,l[i]?=some x:=⟨_,L1b hlt⟩
   obtain⟨b1,rfl,xe,xd⟩:=HA.out R4;obtain⟨b2,rfl,xf,xc⟩:=HB.out R4;have x1:=keep xa xe (xd i x hx).1;have x2:=keep xa xf (xc i x hx).1;have x3:=keep xa xe (xd i x hx).2;have x4:=keep xa xf (xc i x hx).2;have xg:(i:Int) < (l.length:Int):=by omega
   clear xd xc xa;go_wp2_with fail;go_region
   all_goals go_wp2_with fail
   all_goals go_roundw
   case rel=>exact ⟨i+1,by omega,by go_num,by repeat (first | exact xb.out | refine L3c ?_)⟩
   case measure=>simp [intOf];omega
  ·obtain rfl:i=l.length:=by omega
   have xh:¬(l.length:Int) < (l.length:Int):=by omega
   clear xa;go_wp2_with fail;go_ret;exact⟨rfl,xb.out⟩
end
section
variable {W:World} {a b:Option Addr} {ca cb:Nat}
theorem jQ {l:List Ob} (ha:ObV W a l) (hb:ObV W b l) (hn:l.length<=1000000) (hl:∀o,o∈l->o.2.length<=1000000) :
  Calls prog 30 #[.slice a l.length ca,.slice b l.length cb] W fun e w'=>e=.returned (.bool true)/\L0d W w':=by
 have HA:=hid ha;have HB:=hid hb;have HL:=hid hl;clear ha hb hl;go_enter func30,ntmps30;go_wp2_with fail;go_loopw [5] (fun vi wr=>∃i:Nat,i<=l.length/\vi=.int .i64 i/\L0d W wr) (fun vi _=>l.length - (intOf vi).toNat)
 case atStart=>exact ⟨0,L4c _,rfl,L3b _ _⟩
 case round =>
  obtain⟨i,hi,rfl,xb⟩:=hrel;have xa:=hid xb;by_cases hlt:i < l.length
  ·obtain ⟨o,ho⟩:∃o,l[i]?=some o:=⟨_,L1b hlt⟩
   obtain⟨b1,rfl,xd,xi⟩:=HA.out R4;obtain⟨b2,rfl,xe,xh⟩:=HB.out R4;obtain⟨f1,g1,x1,x3,xf⟩:=xi i o ho;obtain⟨f2,g2,x2,x4,xj⟩:=xh i o ho;have y3:=keep xb xd x3;have y4:=keep xb xe x4;have HS:Hid (∀U,L0d W U->Calls prog 48 #[.slice f1 o.2.length g1,.slice f2 o.2.length g2] U fun e w'=>e=.returned (.bool true)/\L0d U w'):=hid fun U hU=>aJ (xf.here hU) (xj.here hU) (HL.out o (L2a ho))
   have xk:(i:Int) < (l.length:Int):=by omega
   clear xi xh xf xj;go_wp2_with fail;refine wp_region_held_drew (S:=fun u=>u.cell? ⟨b1,i*2+1,none⟩=some (.slice f1 o.2.length g1)/\u.cell? ⟨b2,i*2+1,none⟩=some (.slice f2 o.2.length g2)) Q7 ⟨y3,y4⟩ (fun hHeld=>?_)
   refine TW 0 ⟨some 18,.move (.tmp 0),74,"book.go:336",#[],none⟩ ?_
   refine TW 1 ⟨some 19,.move (.tmp 5),3,"book.go:336",#[],none⟩ ?_
   refine TW 2 ⟨some 20,.indexAddr 74 (.tmp 18) (.tmp 19),0,"book.go:336",#[⟨0,.data⟩,⟨1,.data⟩],none⟩ ?_
   refine TW 3 ⟨some 21,.fieldAddr 90 (.tmp 20) 1,0,"book.go:336",#[⟨2,.data⟩],none⟩ ?_
   refine TW 4 ⟨some 22,.load 84 (.tmp 21),84,"book.go:336",#[⟨3,.data⟩],none⟩ ?_
   refine TW 5 ⟨some 23,.move (.tmp 1),74,"book.go:336",#[],none⟩ ?_
   refine TW 6 ⟨some 24,.move (.tmp 5),3,"book.go:336",#[],none⟩ ?_
   refine TW 7 ⟨some 25,.indexAddr 74 (.tmp 23) (.tmp 24),0,"book.go:336",#[⟨5,.data⟩,⟨6,.data⟩],none⟩ ?_
   refine TW 8 ⟨some 26,.fieldAddr 90 (.tmp 25) 1,0,"book.go:336",#[⟨7,.data⟩],none⟩ ?_
   refine TW 9 ⟨some 27,.load 84 (.tmp 26),84,"book.go:336",#[⟨8,.data⟩],none⟩ ?_
   clear hHeld
   refine TO 10 ⟨some 28,.call ⟨.value (.func 48),#[.tmp 22,.tmp 27],#[84,84]⟩,4,"book.go:336",#[⟨4,.data⟩,⟨9,.data⟩],none⟩ fun K hK => ?_
   go_simp
   go_at_call 48
   refine (HS.out _ (by repeat (first | exact xa.out | refine L3c ?_))).mono ?_;rintro e w2 ⟨rfl,xg⟩;have xc:L0d W w2:=(show L0d W wr.drew from L3c xa.out).trans (xg.mono xa.out.size)
   dsimp only
   refine TG hK ⟨keep xc xd x3,keep xc xe x4⟩ fun hHeld=>?_
   clear hK K
   refine TW 11 ⟨some 6,.assign (.tmp 28),4,"book.go:336",#[⟨10,.data⟩,⟨10,.chain⟩,⟨0,.phase⟩,⟨1,.phase⟩,⟨2,.phase⟩,⟨3,.phase⟩,⟨4,.phase⟩,⟨5,.phase⟩,⟨6,.phase⟩,⟨7,.phase⟩,⟨8,.phase⟩,⟨9,.phase⟩,⟨10,.phase⟩],none⟩ ?_
   clear hHeld;refine wpAnyH_done Q7 ?_ _;have y1:=keep xc xd x1;have y2:=keep xc xe x2;have xl:=hid xc;clear xg xc y3 y4;go_wp2_with fail;go_region
   all_goals go_wp2_with fail
   all_goals go_roundw
   case rel=>exact ⟨i+1,by omega,by go_num,by repeat (first | exact xl.out | refine L3c ?_)⟩
   case measure=>simp [intOf];omega
  ·obtain rfl:i=l.length:=by omega
   have xm:¬(l.length:Int) < (l.length:Int):=by omega
   clear xb;go_wp2_with fail;go_ret;exact⟨rfl,xa.out⟩
theorem kJ {l:List FrA} (ha:FrV W a l) (hb:FrV W b l) (hn:l.length<=1000000) (hl:∀f,f∈l->f.loc.length<=1000000/\f.stk.length<=1000000) :
  Calls prog 26 #[.slice a l.length ca,.slice b l.length cb] W fun e w'=>e=.returned (.bool true)/\L0d W w':=by
 have HA:=hid ha;have HB:=hid hb;have HL:=hid hl;clear ha hb hl;go_enter func26,ntmps26;go_wp2_with fail;go_loopw [5] (fun vi wr=>∃i:Nat,i<=l.length/\vi=.int .i64 i/\L0d W wr) (fun vi _=>l.length - (intOf vi).toNat)
 case atStart=>exact ⟨0,L4c _,rfl,L3b _ _⟩
 case round =>
  obtain⟨i,hi,rfl,xc⟩:=hrel;have xb:=hid xc;by_cases hlt:i < l.length
  ·obtain ⟨f,hf⟩:∃f,l[i]?=some f:=⟨_,L1b hlt⟩
   obtain⟨b1,rfl,xd,xl⟩:=HA.out R4;obtain⟨b2,rfl,xe,xk⟩:=HB.out R4;obtain⟨l1,m1,s1,t1,n1,p1,x1,z1,xi,xn⟩:=xl i f hf;obtain⟨l2,m2,s2,t2,n2,p2,x2,z2,xm,xj⟩:=xk i f hf;have y1:=keep xc xd x1;have y2:=keep xc xe x2;have xg:=HL.out f (L2a hf);have HS:Hid (∀U,L0d W U->Calls prog 48 #[.slice l1 f.loc.length m1,.slice l2 f.loc.length m2] U fun e w'=>e=.returned (.bool true)/\L0d U w'):=hid fun U hU=>aJ (xi.here hU) (xm.here hU) xg.1
   have HT:Hid (∀U,L0d W U->Calls prog 48 #[.slice s1 f.stk.length t1,.slice s2 f.stk.length t2] U fun e w'=>e=.returned (.bool true)/\L0d U w'):=hid fun U hU=>aJ (xn.here hU) (xj.here hU) xg.2
   have xp:(i:Int) < (l.length:Int):=by omega
   clear xl xk xi xm xn xj;go_wp2_with fail;refine wp_region_held_drew (S:=fun u=>u.cell? ⟨b1,i*4+2,none⟩=some (.slice l1 f.loc.length m1)/\u.cell? ⟨b2,i*4+2,none⟩=some (.slice l2 f.loc.length m2)) Q7 ⟨y1,y2⟩ (fun hHeld=>?_)
   refine TW 0 ⟨some 19,.move (.tmp 0),66,"book.go:322",#[],none⟩ ?_
   refine TW 1 ⟨some 20,.move (.tmp 5),3,"book.go:322",#[],none⟩ ?_
   refine TW 2 ⟨some 21,.indexAddr 66 (.tmp 19) (.tmp 20),0,"book.go:322",#[⟨0,.data⟩,⟨1,.data⟩],none⟩ ?_
   refine TW 3 ⟨some 22,.fieldAddr 86 (.tmp 21) 2,0,"book.go:322",#[⟨2,.data⟩],none⟩ ?_
   refine TW 4 ⟨some 23,.load 84 (.tmp 22),84,"book.go:322",#[⟨3,.data⟩],none⟩ ?_
   refine TW 5 ⟨some 24,.move (.tmp 1),66,"book.go:322",#[],none⟩ ?_
   refine TW 6 ⟨some 25,.move (.tmp 5),3,"book.go:322",#[],none⟩ ?_
   refine TW 7 ⟨some 26,.indexAddr 66 (.tmp 24) (.tmp 25),0,"book.go:322",#[⟨5,.data⟩,⟨6,.data⟩],none⟩ ?_
   refine TW 8 ⟨some 27,.fieldAddr 86 (.tmp 26) 2,0,"book.go:322",#[⟨7,.data⟩],none⟩ ?_
   refine TW 9 ⟨some 28,.load 84 (.tmp 27),84,"book.go:322",#[⟨8,.data⟩],none⟩ ?_
   clear hHeld
   refine TO 10 ⟨some 29,.call ⟨.value (.func 48),#[.tmp 23,.tmp 28],#[84,84]⟩,4,"book.go:322",#[⟨4,.data⟩,⟨9,.data⟩],none⟩ fun K hK => ?_
   go_simp
   go_at_call 48
   refine (HS.out _ (by repeat (first | exact xb.out | refine L3c ?_))).mono ?_;rintro e w2 ⟨rfl,xf⟩;have xa:L0d W w2:=(show L0d W wr.drew from L3c xb.out).trans (xf.mono xb.out.size)
   dsimp only
   refine TG hK ⟨keep xa xd x1,keep xa xe x2⟩ fun hHeld=>?_
   clear hK K
   refine TW 11 ⟨some 6,.assign (.tmp 29),4,"book.go:322",#[⟨10,.data⟩,⟨10,.chain⟩,⟨0,.phase⟩,⟨1,.phase⟩,⟨2,.phase⟩,⟨3,.phase⟩,⟨4,.phase⟩,⟨5,.phase⟩,⟨6,.phase⟩,⟨7,.phase⟩,⟨8,.phase⟩,⟨9,.phase⟩,⟨10,.phase⟩],none⟩ ?_
   clear hHeld;refine wpAnyH_done Q7 ?_ _;have y3:=keep xa xd z1;have y4:=keep xa xe z2;have xh:=hid xa;clear xf xa y1 y2;go_wp2_with fail;refine wp_region_held_drew (S:=fun u=>u.cell? ⟨b1,i*4+3,none⟩=some (.slice s1 f.stk.length t1)/\u.cell? ⟨b2,i*4+3,none⟩=some (.slice s2 f.stk.length t2)) Q7 ⟨y3,y4⟩ (fun hHeld=>?_)
   refine TW 0 ⟨some 30,.move (.tmp 0),66,"book.go:323",#[],none⟩ ?_
   refine TW 1 ⟨some 31,.move (.tmp 5),3,"book.go:323",#[],none⟩ ?_
   refine TW 2 ⟨some 32,.indexAddr 66 (.tmp 30) (.tmp 31),0,"book.go:323",#[⟨0,.data⟩,⟨1,.data⟩],none⟩ ?_
   refine TW 3 ⟨some 33,.fieldAddr 86 (.tmp 32) 3,0,"book.go:323",#[⟨2,.data⟩],none⟩ ?_
   refine TW 4 ⟨some 34,.load 84 (.tmp 33),84,"book.go:323",#[⟨3,.data⟩],none⟩ ?_
   refine TW 5 ⟨some 35,.move (.tmp 1),66,"book.go:323",#[],none⟩ ?_
   refine TW 6 ⟨some 36,.move (.tmp 5),3,"book.go:323",#[],none⟩ ?_
   refine TW 7 ⟨some 37,.indexAddr 66 (.tmp 35) (.tmp 36),0,"book.go:323",#[⟨5,.data⟩,⟨6,.data⟩],none⟩ ?_
   refine TW 8 ⟨some 38,.fieldAddr 86 (.tmp 37) 3,0,"book.go:323",#[⟨7,.data⟩],none⟩ ?_
   refine TW 9 ⟨some 39,.load 84 (.tmp 38),84,"book.go:323",#[⟨8,.data⟩],none⟩ ?_
   clear hHeld
   refine TO 10 ⟨some 40,.call ⟨.value (.func 48),#[.tmp 34,.tmp 39],#[84,84]⟩,4,"book.go:323",#[⟨4,.data⟩,⟨9,.data⟩],none⟩ fun K hK => ?_
   go_simp
   go_at_call 48
   refine (HT.out _ (by repeat (first | exact xh.out | refine L3c ?_))).mono ?_;rintro e w3 ⟨rfl,xf⟩;have xa:L0d W w3:=(show L0d W w2.drew from L3c xh.out).trans (xf.mono xh.out.size)
   dsimp only
   refine TG hK ⟨keep xa xd z1,keep xa xe z2⟩ fun hHeld=>?_
   clear hK K
   refine TW 11 ⟨some 7,.assign (.tmp 40),4,"book.go:323",#[⟨10,.data⟩,⟨10,.chain⟩,⟨0,.phase⟩,⟨1,.phase⟩,⟨2,.phase⟩,⟨3,.phase⟩,⟨4,.phase⟩,⟨5,.phase⟩,⟨6,.phase⟩,⟨7,.phase⟩,⟨8,.phase⟩,⟨9,.phase⟩,⟨10,.phase⟩],none⟩ ?_
   clear hHeld;refine wpAnyH_done Q7 ?_ _;have q1:=keep xa xd n1;have q2:=keep xa xe n2;have q3:=keep xa xd p1;have q4:=keep xa xe p2;have xo:=hid xa;clear xf xa y3 y4;go_wp2_with fail;go_region
   all_goals go_wp2_with fail
   all_goals go_roundw
   case rel=>exact ⟨i+1,by omega,by go_num,by repeat (first | exact xo.out | refine L3c ?_)⟩
   case measure=>simp [intOf];omega
  ·obtain rfl:i=l.length:=by omega
   have xq:¬(l.length:Int) < (l.length:Int):=by omega
   clear xc;go_wp2_with fail;go_ret;exact⟨rfl,xb.out⟩
end
section
variable {R:RfR} {W wr:World} {g:PgR} {i lb mb:Nat} {own:Own}
theorem jK:∀(l:List Int) (n k:Nat),D8 l (n:Int) (k:Int)=match atT l n k with | none => -1 | some i=>(i:Int)
 | [],_,_=>rfl
 | x::l,n,k=>by
  rw[D8,atT];by_cases e:x=(k:Int)
  ·rw [if_pos e,if_pos e]
  ·rw [if_neg e,if_neg e]
   exact jK l (n+1) k
def iU (sl:List Int) (obs:List Ob) (k:Nat):Ob:=match atT sl 0 k with
 | none=>(0,[])
 | some i=>((obs.getD i (0,[])).1,(obs.getD i (0,[])).2.map (J1 sl))
def dK (W wr:World) (R:RfR) (i:Nat) (lb:Nat):Prop :=
 ∃L:List ObR,L.length=R.cap/\wr.ownsRow W.heap.size 90 2 (.slice (some ⟨lb,0,none⟩) R.cap R.cap) R.cap (L.flatMap ObR.cells) /\
  (∀k,k < i->∃q,L[k]?=some q/\q.kind=(iU (R.ths.map ThR.slot) (R.ths.map ThR.abs) k).1/\wr.ownsRow W.heap.size 92 2 q.fv (iU (R.ths.map ThR.slot) (R.ths.map ThR.abs) k).2.length (A5 (iU (R.ths.map ThR.slot) (R.ths.map ThR.abs) k).2)) /\
  (∀k,i<=k->k < R.cap->L[k]?=some K9)/\L0d W wr
theorem a0y (h:dK W wr R i lb) (hi:i < R.cap) (hn:atT (R.ths.map ThR.slot) 0 i=none):dK W wr R (i+1) lb:=by
 obtain⟨L,h1,h2,h3,h4,h5⟩:=h;refine⟨L,h1,h2,fun k hk=>?_,fun k hk hk2=>h4 k R4 hk2,h5⟩;by_cases e:k=i
 ·subst e
  refine⟨K9,h4 k (L1c _) hi,?_,?_⟩
  ·unfold iU;rw [hn];rfl
  ·unfold iU;rw [hn];exact World.ownsRow_nil _ _ _ _
 ·exact h3 k R4
theorem a2F {w2:World} {j:Nat} {o:ThR} {fa:Option Addr} {fc:Nat} (h:dK W wr R i lb) (hi:i < R.cap) (hj:atT (R.ths.map ThR.slot) 0 i=some j) (ho:R.ths[j]?=some o) (hB:L0d wr w2) (hf:w2.ownsRow W.heap.size 92 2 (.slice fa o.fl.length fc) o.fl.length (A5 (o.fl.map (J1 (R.ths.map ThR.slot))))) :
  dK W ((w2.setCell ⟨lb,i*2,none⟩ (.int .u8 o.kind)).setCell ⟨lb,i*2+1,none⟩ (.slice fa o.fl.length fc)) R (i+1) lb:=by
 obtain⟨L,h1,h2,h3,h4,h5⟩:=h;have xc:=G9 h2 hB;have xe:=h4 i (L1c _) hi;have xd:∀{n:Nat} {v:Value} {xs:List Value},w2.ownsRow W.heap.size 92 2 v n xs->((w2.setCell ⟨lb,i*2,none⟩ (.int .u8 o.kind)).setCell ⟨lb,i*2+1,none⟩ (.slice fa o.fl.length fc)).ownsRow W.heap.size 92 2 v n xs:=fun hx=>A6 hx fun b hb=>by
  have xb:b≠lb:=fun e=>G8 hx xc R3 b hb (by rw [e];rfl)
  rw[heap_setCell_other _ _ _ _ xb,heap_setCell_other _ _ _ _ xb]
 have hs:=(World.ownsRow.stored (World.ownsRow.stored xc (i*2) (.int .u8 o.kind)).1 (i*2+1) (.slice fa o.fl.length fc)).1;have e1:((L.flatMap ObR.cells).set (i*2) (.int .u8 o.kind)).set (i*2+1) (.slice fa o.fl.length fc)=(L.set i ⟨o.kind,.slice fa o.fl.length fc,[]⟩).flatMap ObR.cells:=by
  have a1:=G2 (c:=ObR.cells) ObR.cells_len (l:=L) (i:=i) (j:=0) (x:=K9) (y:=⟨o.kind,.slice none 0 0,[]⟩) (u:=.int .u8 o.kind) xe R3 rfl;have a2:=G2 (c:=ObR.cells) ObR.cells_len (l:=L.set i ⟨o.kind,.slice none 0 0,[]⟩) (i:=i) (j:=1) (x:=⟨o.kind,.slice none 0 0,[]⟩) (y:=⟨o.kind,.slice fa o.fl.length fc,[]⟩) (u:=.slice fa o.fl.length fc) (by rw [List.getElem?_set_self R4]) R3 rfl
  rw[List.set_set,a1] at a2;exact a2.symm
 rw[e1] at hs;have xa:=(h2.lt lb rfl);refine⟨L.set i ⟨o.kind,.slice fa o.fl.length fc,[]⟩,by rw [List.length_set];exact h1,hs,fun k hk=>?_,fun k hk hk2=>by rw [List.getElem?_set_ne R4];exact h4 k R4 hk2,?_⟩
 ·by_cases e:k=i
  ·subst e
   have e2:iU (R.ths.map ThR.slot) (R.ths.map ThR.abs) k=(o.kind,o.fl.map (J1 (R.ths.map ThR.slot))):=by
    unfold iU;rw[hj];simp only[List.getD_eq_getElem?_getD,List.getElem?_map,ho];rfl
   refine⟨_,List.getElem?_set_self R4,?_,?_⟩
   ·rw [e2]
   ·rw [e2]
    simp only[List.length_map];exact xd hf
  ·obtain ⟨q,hq,q1,q2⟩:=h3 k R4
   exact⟨q,by rw [List.getElem?_set_ne R4];exact hq,q1,xd (G9 q2 hB)⟩
 ·exact ((h5.trans (hB.mono h5.size)).setCell (p:=⟨lb,_,none⟩) xa.1 _).setCell (p:=⟨lb,_,none⟩) xa.1 _
theorem hY {w:World} {B e sz b n c:Nat} {xs:List Value} (h:w.ownsRow B e sz (.slice (some ⟨b,0,none⟩) n c) n xs) {j:Nat} (hj:j < n*sz):∃z,w.cell? ⟨b,j,none⟩=some z:=by
 have:=h.cellAt j hj;rw[this];exact⟨_,L1b (by rw [h.1];exact hj)⟩
theorem yG (h:A8 W own mb g R) {j:Nat} {o:ThR} (ho:R.ths[j]?=some o) {tb tc:Nat} (h5:W.cell? ⟨mb,5,none⟩=some (.slice (some ⟨tb,0,none⟩) R.ths.length tc)):W.cell? ⟨tb,j*3,none⟩=some (.int .u8 o.kind):=by
 obtain⟨a,cp,hv,_,hc⟩:=Row.cells ThR.cells_len h.things;have hi:=(L1a.1 ho).1;obtain⟨b,rfl,hb,_,_,xa⟩:=hc R4;have m5:=h.c5;rw[h5,hv] at m5;have e:=L5b m5;simp only[Value.slice.injEq,Option.some.injEq,Addr.mk.injEq] at e;rw[e.1.1];exact xa j 0 o _ ho R3 rfl
theorem a1a (h:A8 W own mb g R) (hb:fD R) (hr:bX R) (hcap:R.cap<=1000) :
  Calls prog 31 #[.pointer (some ⟨mb,0,none⟩)] W fun e w'=>∃lb,e=.returned (.slice (some ⟨lb,0,none⟩) R.cap R.cap)/\dK W w' R R.cap lb:=by
 obtain⟨xy,hi,hz,xw,xn⟩:=info_parts vW;have xl:Hid (∀W:World,(Instr.makeSlice 74 (.int .i64 (R.cap:Int)) (.int .i64 (R.cap:Int))).run prog W=.ok (.slice (some ⟨W.heap.size,0,none⟩) R.cap R.cap) (W.alloc (.cells (madeCells #[.int .u8 0,.slice none 0 0] (R.cap*2)) 90))):=by
  intro W;have hr:=run_make (P:=prog) W 74 90 xy _ underlying74 hi hz .i64 .i64 R.cap R.cap R4 (Int.le_refl _) (by rw [xn];omega) R4;simpa [xw,Value.cells] using hr
 have xx:=xl.out;have xp:=h.lt _ _ h.me;have m1:=h.c1;have HH:=hid h;have HB:=hid hb;have HR:=hid hr;have xu:Hid (∀U,L0d W U->∀k:Nat,Calls prog 52 #[.pointer (some ⟨mb,0,none⟩),.int .i64 (k:Int)] U fun e w'=>e=.returned (.int .i64 (D8 (R.ths.map ThR.slot) 0 (k:Int)))/\w'=U):=hid fun U hU k=>uS _ (h.slotsIn.later hU) (by have:=hb.ths;rw [List.length_map];omega)
 have H0:Hid (dK W (W.alloc (.cells (madeCells #[.int .u8 0,.slice none 0 0] (R.cap*2)) 90)) R 0 W.heap.size):=hid (by
  have:=World.ownsRow_lit (base:=W.heap.size) (e:=90) (size:=2) W (madeCells #[.int .u8 0,.slice none 0 0] (R.cap*2)) R.cap R5 Q5 (by rw [size_madeCells]);rw[tC] at this;refine⟨List.replicate R.cap K9,by simp,by simpa using this,fun k hk=>by omega,fun k _ hk=>by rw [List.getElem?_replicate,if_pos hk],L3a (L3b _ _) (L1c _) _⟩)
 have M1:=hid m1;clear h hb hr hi hz xw xn xl;go_enter func31,ntmps31;go_wp2_with fail;generalize W.alloc (.cells (madeCells #[.int .u8 0,.slice none 0 0] (R.cap*2)) 90)=W1 at *
 clear m1 xx;go_loopw [4] (fun vi wr=>∃i:Nat,i<=R.cap/\vi=.int .i64 i/\dK W wr R i W.heap.size) (fun vi _=>R.cap - (intOf vi).toNat)
 case atStart=>exact ⟨0,L4c _,rfl,H0.out⟩
 case round =>
  obtain⟨i,hi,rfl,xg⟩:=hrel;have xb:=hid xg;obtain⟨L,_,xc,_,_,xd⟩:=xg;have ye:W.heap.size < wr.heap.size:=(xc.lt W.heap.size rfl).2;have yb:mb < wr.heap.size:=by omega
  have m1:=keep xd xp M1.out;have xa:=hid xd;have xi:=hid xc;clear xd xc;by_cases hlt:i < R.cap
  ·have xz:(i:Int) < (R.cap:Int):=by omega
   cases hat:atT (R.ths.map ThR.slot) 0 i with
   | none =>
    have hp:D8 (R.ths.map ThR.slot) 0 (i:Int) = -1:=by have:=jK (R.ths.map ThR.slot) 0 i;rw [hat] at this;exact this
    go_wp2_with (go_at_call 52;refine (xu.out _ xa.out i).mono ?_;rintro e w' ⟨rfl,hw⟩;rw [hw,hp];clear hw w')
    go_roundw
    case rel=>exact ⟨i+1,by omega,by go_num,a0y xb.out hlt hat⟩
    case measure=>simp [intOf];omega
   | some j =>
    have hp:D8 (R.ths.map ThR.slot) 0 (i:Int)=(j:Int):=by have:=jK (R.ths.map ThR.slot) 0 i;rw [hat] at this;exact this
    have yf:j < R.ths.length:=by
     have:=(gX _ _ _ _ hat).2;have:=(L1a.1 this).1;simpa using this
    obtain⟨o,ho⟩:∃o,R.ths[j]?=some o:=⟨_,L1b yf⟩
    obtain⟨tb,tc,fa,fc,xh,xs,xr,yj,yh,xq⟩:=HH.out.thing ho;have xv:=yG HH.out ho xh;have t0:=keep xa.out xp xh;have t1:=keep xa.out xs xv;have t2:=keep xa.out xs xr;have xt:tb < wr.heap.size:=by omega
    have xk:=HB.out.fld o (L2a ho);have xm:Hid (∀U,L0d W U->Calls prog 49 #[.pointer (some ⟨mb,0,none⟩),.slice fa o.fl.length fc] U fun e w'=>∃v,e=.returned v/\w'.ownsRow U.heap.size 92 2 v o.fl.length (A5 (o.fl.map (J1 (R.ths.map ThR.slot))))/\L0d U w'):=hid fun U hU=>jO (HH.out.slotsIn.later hU) ((xq.later hU).mono hU.size) (fun u hu h2=>by rw [List.length_map];exact HR.out.flds o (L2a ho) u hu h2) xk (by have:=HB.out.ths;simpa using this)
    clear xh xv xr xq;go_wp2_with (go_at_call 52;refine (xu.out _ xa.out i).mono ?_;rintro e w' ⟨rfl,hw⟩;rw [hw,hp];clear hw w')
    have yi:(j:Int) < (R.ths.length:Int):=by omega
    have HC:Hid (∀u,L0d wr u->u.cell? ⟨mb,5,none⟩=some (.slice (some ⟨tb,0,none⟩) R.ths.length tc)/\u.cell? ⟨tb,j*3,none⟩=some (.int .u8 o.kind)/\u.cell? ⟨tb,j*3+1,none⟩=some (.slice fa o.fl.length fc)):=hid fun u hu=>⟨keep hu yb t0,keep hu xt t1,keep hu xt t2⟩
    have HV:Hid (L0d wr wr.drew):=L3c (L3b _ _);clear t0 t1 t2 m1;refine wp_region_held_drew (S:=fun u=>u.cell? ⟨mb,5,none⟩=some (.slice (some ⟨tb,0,none⟩) R.ths.length tc)/\u.cell? ⟨tb,j*3,none⟩=some (.int .u8 o.kind)/\u.cell? ⟨tb,j*3+1,none⟩=some (.slice fa o.fl.length fc)) Q7 (HC.out _ HV.out) (fun hHeld=>?_)
    refine TW 0 ⟨some 24,.move (.tmp 3),74,"machine.go:489",#[],none⟩ ?_
    refine TW 1 ⟨some 25,.move (.tmp 4),3,"machine.go:489",#[],none⟩ ?_
    refine TW 2 ⟨some 26,.move (.tmp 0),46,"machine.go:489",#[],none⟩ ?_
    refine TW 3 ⟨some 27,.nilCheck (.tmp 26),0,"machine.go:489",#[⟨2,.data⟩],none⟩ ?_
    refine TW 4 ⟨some 28,.fieldAddr 69 (.tmp 27) 5,0,"machine.go:489",#[⟨3,.data⟩],none⟩ ?_
    refine TW 5 ⟨some 29,.load 67 (.tmp 28),67,"machine.go:489",#[⟨4,.data⟩],none⟩ ?_
    refine TW 6 ⟨some 30,.move (.tmp 5),3,"machine.go:489",#[],none⟩ ?_
    refine TW 7 ⟨some 31,.indexAddr 67 (.tmp 29) (.tmp 30),0,"machine.go:489",#[⟨5,.data⟩,⟨6,.data⟩],none⟩ ?_
    refine TW 8 ⟨some 32,.fieldAddr 100 (.tmp 31) 0,0,"machine.go:489",#[⟨7,.data⟩],none⟩ ?_
    refine TW 9 ⟨some 33,.load 5 (.tmp 32),5,"machine.go:489",#[⟨8,.data⟩],none⟩ ?_
    refine TW 10 ⟨some 34,.move (.tmp 0),46,"machine.go:489",#[],none⟩ ?_
    refine TW 11 ⟨some 35,.move (.tmp 0),46,"machine.go:489",#[],none⟩ ?_
    refine TW 12 ⟨some 36,.nilCheck (.tmp 35),0,"machine.go:489",#[⟨11,.data⟩],none⟩ ?_
    refine TW 13 ⟨some 37,.fieldAddr 69 (.tmp 36) 5,0,"machine.go:489",#[⟨12,.data⟩],none⟩ ?_
    refine TW 14 ⟨some 38,.load 67 (.tmp 37),67,"machine.go:489",#[⟨13,.data⟩],none⟩ ?_
    refine TW 15 ⟨some 39,.move (.tmp 5),3,"machine.go:489",#[],none⟩ ?_
    refine TW 16 ⟨some 40,.indexAddr 67 (.tmp 38) (.tmp 39),0,"machine.go:489",#[⟨14,.data⟩,⟨15,.data⟩],none⟩ ?_
    refine TW 17 ⟨some 41,.fieldAddr 100 (.tmp 40) 1,0,"machine.go:489",#[⟨16,.data⟩],none⟩ ?_
    refine TW 18 ⟨some 42,.load 84 (.tmp 41),84,"machine.go:489",#[⟨17,.data⟩],none⟩ ?_
    clear hHeld
    refine TO 19 ⟨some 43,.call ⟨.value (.func 49),#[.tmp 34,.tmp 42],#[46,84]⟩,84,"machine.go:489",#[⟨10,.data⟩,⟨18,.data⟩],none⟩ fun K hK => ?_
    go_simp
    go_at_call 49
    refine (xm.out _ (xa.out.trans (HV.out.mono xa.out.size))).mono ?_;rintro e w1 ⟨v1,rfl,xj,xo⟩;obtain⟨a1,c1,yd,_⟩:=B4 xj;subst yd;have xe:Hid (L0d wr w1):=hid (HV.out.trans (xo.mono HV.out.size));have ya:Hid (w1.ownsRow W.heap.size 92 2 (.slice a1 o.fl.length c1) o.fl.length (A5 (o.fl.map (J1 (R.ths.map ThR.slot))))):=hid (D6 xj (by have:=xa.out.size;simpa using this))
    clear xj xo
    dsimp only
    refine TG hK (HC.out _ xe.out) fun hHeld=>?_
    clear hK K
    refine TW 20 ⟨some 44,.build 90 #[(0,.tmp 33),(1,.tmp 43)],90,"machine.go:489",#[⟨9,.data⟩,⟨19,.data⟩],none⟩ ?_
    refine TW 21 ⟨some 45,.indexAddr 74 (.tmp 24) (.tmp 25),0,"machine.go:489",#[⟨0,.data⟩,⟨1,.data⟩,⟨0,.phase⟩,⟨1,.phase⟩,⟨2,.phase⟩,⟨3,.phase⟩,⟨4,.phase⟩,⟨5,.phase⟩,⟨6,.phase⟩,⟨7,.phase⟩,⟨8,.phase⟩,⟨9,.phase⟩,⟨10,.phase⟩,⟨11,.phase⟩,⟨12,.phase⟩,⟨13,.phase⟩,⟨14,.phase⟩,⟨15,.phase⟩,⟨16,.phase⟩,⟨17,.phase⟩,⟨18,.phase⟩,⟨19,.phase⟩,⟨20,.phase⟩],none⟩ ?_
    clear hHeld;have xf:=G9 xi.out xe.out;have l0:∃z,w1.cell? ⟨W.heap.size,i*2,none⟩=some z:=hY xf R4
    have l1:∃z,w1.cell? ⟨W.heap.size,i*2+1,none⟩=some z:=hY xf R4
    obtain⟨z0,l0⟩:=l0;obtain⟨z1,l1⟩:=l1;have f0:=xf.frozenAt (i*2);have f1:=xf.frozenAt (i*2+1);obtain⟨s0,s1,s2⟩:=HC.out _ xe.out;have yc:W.heap.size < w1.heap.size:=L0a ye xe.out.size;have yk:mb≠W.heap.size:=by omega
    have yl:tb≠W.heap.size:=by omega
    clear xf
    refine TO 22 ⟨none,.store 90 (.tmp 45) (.tmp 44),0,"machine.go:489",#[⟨21,.data⟩,⟨20,.data⟩,⟨19,.chain⟩,⟨0,.phase⟩,⟨1,.phase⟩,⟨2,.phase⟩,⟨3,.phase⟩,⟨4,.phase⟩,⟨5,.phase⟩,⟨6,.phase⟩,⟨7,.phase⟩,⟨8,.phase⟩,⟨9,.phase⟩,⟨10,.phase⟩,⟨11,.phase⟩,⟨12,.phase⟩,⟨13,.phase⟩,⟨14,.phase⟩,⟨15,.phase⟩,⟨16,.phase⟩,⟨17,.phase⟩,⟨18,.phase⟩,⟨19,.phase⟩,⟨20,.phase⟩],none⟩ fun K hK => ?_
    go_simp
    have HN:Hid (dK W ((w1.setCell ⟨W.heap.size,i*2,none⟩ (.int .u8 o.kind)).setCell ⟨W.heap.size,i*2+1,none⟩ (.slice a1 o.fl.length c1)) R (i+1) W.heap.size):=hid (a2F xb.out hlt hat ho xe.out ya.out);have hS:((w1.setCell ⟨W.heap.size,i*2,none⟩ (.int .u8 o.kind)).setCell ⟨W.heap.size,i*2+1,none⟩ (.slice a1 o.fl.length c1)).cell? ⟨mb,5,none⟩=some (.slice (some ⟨tb,0,none⟩) R.ths.length tc)/\((w1.setCell ⟨W.heap.size,i*2,none⟩ (.int .u8 o.kind)).setCell ⟨W.heap.size,i*2+1,none⟩ (.slice a1 o.fl.length c1)).cell? ⟨tb,j*3,none⟩=some (.int .u8 o.kind)/\((w1.setCell ⟨W.heap.size,i*2,none⟩ (.int .u8 o.kind)).setCell ⟨W.heap.size,i*2+1,none⟩ (.slice a1 o.fl.length c1)).cell? ⟨tb,j*3+1,none⟩=some (.slice fa o.fl.length fc):=⟨(L0b (a:=⟨mb,5,none⟩) ((Below.heap_setCell _ _ _ _ (by show mb≠W.heap.size;omega)).trans (Below.heap_setCell _ _ _ _ (by show mb≠W.heap.size;omega)))).trans s0,(L0b (a:=⟨tb,_,none⟩) ((Below.heap_setCell _ _ _ _ (by show tb≠W.heap.size;omega)).trans (Below.heap_setCell _ _ _ _ (by show tb≠W.heap.size;omega)))).trans s1,(L0b (a:=⟨tb,_,none⟩) ((Below.heap_setCell _ _ _ _ (by show tb≠W.heap.size;omega)).trans (Below.heap_setCell _ _ _ _ (by show tb≠W.heap.size;omega)))).trans s2⟩
    refine hK.out _ _ hS (fun hHeld=>?_);clear hK K hHeld hS;refine wpAnyH_done Q7 ?_ _;generalize ((w1.setCell ⟨W.heap.size,i*2,none⟩ (.int .u8 o.kind)).setCell ⟨W.heap.size,i*2+1,none⟩ (.slice a1 o.fl.length c1))=Y at *
    clear HC s0 s1 s2 l0 l1 f0 f1 xm;go_wp2_with fail;go_roundw
    case rel=>exact ⟨i+1,by omega,by go_num,HN.out⟩
    case measure=>simp [intOf];omega
  ·obtain rfl:i=R.cap:=by omega
   have yg:¬(R.cap:Int) < (R.cap:Int):=by omega
   go_wp2_with fail;go_ret;exact⟨_,rfl,xb.out⟩
end
section
variable {M N cb i xb yb:Nat} {P:A3} {Y:PlR} {w:World} {w0:L7}
theorem tM (h:Lw w0 P w yb Y N M) (hi:Y.ps[i]?=some (xb,cb)) (hN:N<=10000000000) :
  ∃a b c:Int,∀U,L0d w U->(Calls prog 20 #[.pointer (some ⟨xb,0,none⟩)] U fun e w1=>e=.returned (.agg #[.int .i64 a,.int .i64 b,.int .i64 c])/\L0d U w1)/\Calls prog 21 #[.pointer (some ⟨cb,0,none⟩)] U fun e w1=>e=.returned (.agg #[.int .i64 a,.int .i64 b,.int .i64 c])/\L0d U w1:=by
 obtain⟨ox,gx,RX,oc,gc,RC,t,h1,h2,h3,h4,h5,h6,h7,h8⟩:=(h.pair i (xb,cb) hi).ex;refine⟨t.st,(I8 t.obs:Int),(t.dr.length:Int),fun U hU=>?_⟩;have xa:=h.below hU;have hM:A4 U ox xb gx RX:=by have:=xa.sep.F (1,i);rw [h1] at this;exact this
 have hR:A8 U oc cb gc RC:=by have:=xa.sep.F (2,i);rw [h2] at this;exact this
 have e1:RX.st=t.st:=by rw [<- h3.abs];rfl
 have e2:taken RX.obs=I8 t.obs:=by rw [<- h3.abs];exact M7 _
 have e3:RX.dr.length=t.dr.length:=by rw [<- h3.abs];rfl
 have e4:RX.obs.length=t.obs.length:=by rw [<- h3.abs];show _=(RX.obs.map ObR.abs).length;rw [List.length_map]
 have hc:=h4.cap;constructor
 ·have:=uO hM R4 R4
  rw[e1,e2,e3] at this;exact this
 ·have hd:RC.dr.length=t.dr.length:=by rw [h7.v.dr];rfl
  have xc:=h4.dr;have hs:RC.st=t.st:=by rw [h7.v.st];rfl
  have:=tW hR R4 R4;rw[hs,hd,<- h7.v.taken] at this;exact this
theorem qA (h:Lw w0 P w yb Y N M) (hi:Y.ps[i]?=some (xb,cb)) (hN:N<=10000000000) :
  Calls prog 10 #[.pointer (some ⟨yb,0,none⟩),.agg #[.pointer (some ⟨xb,0,none⟩),.pointer (some ⟨cb,0,none⟩)],.int .i64 3] w fun e w'=>e=.returned (.bool true)/\∃P2 Y2,Lw w0 P2 w' yb Y2 N (M+100)/\(Y2.ps=Y.ps/\Y2.psv=Y.psv):=by
 obtain⟨a,b,c,hs⟩:=tM h hi hN;have HS:=hid hs;have HL:=hid h;clear hs h hi;go_enter func10,ntmps10;go_wp2_with (first | (go_at_call 20;refine ((HS.out _ P8).1).mono ?_;rintro e w1 ⟨rfl,xc⟩;have xd:L0d w w1:=(by repeat (first | exact L3b _ _ | refine L3a ?_ Q2 _):L0d w _).trans (xc.mono R5);have c1:w1.cell? ⟨w.heap.size,1,none⟩=some (.pointer (some ⟨cb,0,none⟩)):=keep xc R5 Q9;have xg:w.heap.size < w1.heap.size:=by have:=xc.size;simp at this;omega) | (go_at_call 21;refine ((HS.out _ (by repeat (first | exact xd | refine L3a ?_ Q4 _))).2).mono ?_;rintro e w2 ⟨rfl,xa⟩;have xe:L0d w w2:=(L3a xd xd.size _).trans (xa.mono Q8);have z0:w2.cell? ⟨w1.heap.size,0,none⟩=some (.int .i64 a):=keep xa R5 Q9;have z1:w2.cell? ⟨w1.heap.size,1,none⟩=some (.int .i64 b):=keep xa R5 Q9;have z2:w2.cell? ⟨w1.heap.size,2,none⟩=some (.int .i64 c):=keep xa R5 Q9;have xf:w1.heap.size < w2.heap.size:=by have:=xa.size;simp at this;omega))
 go_ret;exact⟨rfl,P,Y,(HL.out.below (by repeat (first | exact xe | refine L3a ?_ Q4 _))).mono (L1c _) R4,rfl,rfl⟩
end
section
variable {M N cb i xb yb:Nat} {P:A3} {Y:PlR} {w w':World} {w0:L7}
def loose (P Q:A3):A3:=fun i=>if 8<=i.1 then Q i else P i
theorem O0 (P Q:A3) {i:Nat × Nat} (h:8<=i.1):loose P Q i=Q i:=if_pos h
theorem T9 (P Q:A3) {i:Nat × Nat} (h:i.1 < 8):loose P Q i=P i:=if_neg R4
theorem Lw.loose {Q:A3} (h:Lw w0 P w yb Y N M) (hB:L0d w w') (hF:∀i,8<=i.1->(Q i).F w') (hlo:∀i b,8<=i.1->(Q i).B b->w.heap.size<=b) (hd:∀i j b,8<=i.1->8<=j.1->(Q i).B b->(Q j).B b->i=j):Lw w0 (loose P Q) w' yb Y N M:=by
 have hS:=h.sep.below hB;have xa:Sep (Proofs.YtbkmgoffiigdbaaGreatDoor.loose P Q) w':=by
  refine⟨hS.pos,fun i=>?_,fun i j b hi hj=>?_,fun i hi=>?_⟩
  ·by_cases e:8<=i.1
   ·rw [O0 P Q e];exact hF i e
   ·rw [T9 P Q R4];exact hS.F i
  ·by_cases e:8<=i.1
   ·rw [O0 P Q e] at hi
    by_cases e':8<=j.1
    ·rw [O0 P Q e'] at hj;exact hd i j b e e' hi hj
    ·rw [T9 P Q R4] at hj
     have:=(P j).lt w (h.sep.F j) b hj;have:=hlo i b e hi;omega
   ·rw [T9 P Q R4] at hi
    by_cases e':8<=j.1
    ·rw [O0 P Q e'] at hj
     have:=(P i).lt w (h.sep.F i) b hi;have:=hlo j b e' hj;omega
    ·rw [T9 P Q R4] at hj;exact h.sep.dis i j b hi hj
  ·by_cases e:8<=i.1
   ·rw [O0 P Q e] at hi
    have:=hlo i 0 e hi;have:=h.sep.pos;omega
   ·rw [T9 P Q R4] at hi;exact h.sep.z i hi
 have hT:Stp P w (Proofs.YtbkmgoffiigdbaaGreatDoor.loose P Q) w':=⟨hB.os,hB.tape,hB.output,hB.size,fun b hb _=>hB.block b hb,fun i b hb=>by
  by_cases e:8<=i.1
  ·rw [O0 P Q e] at hb;exact L4b (hlo i b e hb)
  ·rw [T9 P Q R4] at hb;exact L4a ⟨i,hb⟩⟩
 obtain⟨hb,hl⟩:=aX h.bel h.lo hT;refine⟨xa,by rw [T9 P Q R3];exact h.p0,⟨h.law.1,fun j i nb h1 h5 hq=>?_⟩,fun i p hp=>?_,h.len,h.nps,hb,hl⟩
 ·rw [T9 P Q (by show j+2 < 8;omega)];exact h.law.2 j i nb h1 h5 hq
 ·obtain ⟨ox,gx,RX,oc,gc,RC,t,h1,h2,h3⟩:=(h.pair i p hp).ex
  exact⟨ox,gx,RX,oc,gc,RC,t,by rw [T9 P Q (by show 1 < 8;decide)];exact h1,by rw [T9 P Q (by show 2 < 8;decide)];exact h2,h3⟩
theorem Lw.book {P':A3} {M':Nat} {Y':PlR} {K:Nat × Nat->Prop} (h:Lw w0 P w yb Y N M) (hS:Sep P' w') (hp:P' (0,0)=H9 yb Y') (hL:J0 P' Y') (hK:aV P P' K) (hK8:∀q,K q->8<=q.1) (hps:Y'.ps=Y.ps) (hlen:∀j,(Y'.l j).length<=M') (hM:M<=M') (hT:Stp P w P' w'):Lw w0 P' w' yb Y' N M':=by
 obtain⟨hb,hl⟩:=aX h.bel h.lo hT;refine⟨hS,hp,hL,fun i p hq=>?_,hlen,by rw [hps];exact L5a h.nps hM,hb,hl⟩;rw[hps] at hq;obtain⟨ox,gx,RX,oc,gc,RC,t,h1,h2,h3⟩:=(h.pair i p hq).ex;exact⟨ox,gx,RX,oc,gc,RC,t,(hK (1,i) (L4a rfl) fun e=>by have:=hK8 _ e;simp only at this;omega).trans h1,(hK (2,i) (L4b (L4a rfl)) fun e=>by have:=hK8 _ e;simp only at this;omega).trans h2,h3⟩
theorem sX {W:World} {B:Nat} {v:Value} {l:List Int} (h:W.ownsRow B 3 1 v l.length (l.map fun n=>.int .i64 n)):∃a c,v=.slice a l.length c/\J2 W a l:=by
 rcases id h.2 with ⟨rfl,h0⟩ | ⟨g,xa,xb,rfl,_,hg,h3,h4,h5,h6⟩
 ·exact ⟨none,0,by rw [h0],fun hp=>by omega⟩
 ·refine ⟨_,xa,rfl,fun _=>⟨g,0,rfl,(L2b.1 hg).1,fun i x hx=>?_⟩⟩
  have xc:=(L1a.1 hx).1;rw[Nat.zero_add,h.cellAt i R4,List.getElem?_map,hx];rfl
theorem a2Z (h:Lw w0 P w yb Y N M) (hi:Y.ps[i]?=some (xb,cb)) :
  ∃(l:List Int) (ra:Option Addr) (rc:Nat),l.length<=40/\(∀U,L0d w U->U.cell? ⟨cb,3,none⟩=some (.slice ra l.length rc)/\J2 U ra l) /\
   ∀U,L0d w U->Calls prog 22 #[.pointer (some ⟨xb,0,none⟩)] U fun e w1=>∃oa oc,e=.returned (.slice oa l.length oc)/\L0d U w1/\J2 w1 oa l/\∃P1,Lw w0 P1 w1 yb Y N M/\P1 (8,0)=cU 3 1 (.slice oa l.length oc) l.length:=by
 obtain⟨ox,gx,RX,oc,gc,RC,t,h1,h2,h3,h4,h5,h6,h7,h8⟩:=(h.pair i (xb,cb) hi).ex;have hR:A8 w oc cb gc RC:=by have:=h.sep.F (2,i);rw [h2] at this;exact this
 have e1:RX.out=t.out:=by rw [<- h3.abs];rfl
 have e2:RC.out=t.out:=by rw [h7.v.out];rfl
 obtain⟨ra,rc,xe,xd⟩:=sX hR.out.1;rw[e2] at xe xd;have xh:=hR.lt _ _ hR.me;refine⟨t.out,ra,rc,h4.out,fun U hU=>⟨keep hU xh (by rw [<- xe];exact hR.c3),xd.later hU⟩,fun U hU=>?_⟩;have xf:=h.below hU;have hM:A4 U ox xb gx RX:=by have:=xf.sep.F (1,i);rw [h1] at this;exact this
 have ho:=h4.out;refine (uN hM (by rw [e1];omega) h3.nil).mono ?_;rintro e w1 ⟨hb,hc⟩;rw[e1] at hc;have xi:∃v,e=.returned v/\w1.ownsRow U.heap.size 3 1 v t.out.length (t.out.map fun n=>.int .i64 n):=by
  rcases hc with ⟨h0,rfl⟩ | ⟨hp,gb,xj,rfl,xa,_⟩
  ·refine ⟨_,rfl,?_⟩
   rw[h0];exact⟨rfl,L4a ⟨rfl,rfl⟩⟩
  ·exact ⟨_,rfl,xa⟩
 obtain⟨v,rfl,hv⟩:=xi;obtain⟨oa,xg,rfl,xc⟩:=sX hv;refine⟨oa,xg,rfl,hb,xc,loose P (fun i=>if i=(8,0) then cU 3 1 (.slice oa t.out.length xg) t.out.length else D7.none),?_,?_⟩
 ·refine xf.loose hb (fun i _=>?_) (fun i b _ hB=>?_) (fun i j b _ _ hB hB'=>?_)
  ·split
   ·exact ⟨_,D6 hv (L4c _)⟩
   ·trivial
  ·split at hB
   ·exact (hv.lt b hB).1
   ·exact hB.elim
  ·split at hB
   ·split at hB'
    ·rename_i a b;rw [a,b]
    ·exact hB'.elim
   ·exact hB.elim
 ·rw [O0 P _ R3]
  exact if_pos rfl
theorem a0G (h:Lw w0 P w yb Y N M) (hi:Y.ps[i]?=some (xb,cb)) (hM:M<=900000000) :
  Calls prog 10 #[.pointer (some ⟨yb,0,none⟩),.agg #[.pointer (some ⟨xb,0,none⟩),.pointer (some ⟨cb,0,none⟩)],.int .i64 4] w fun e w'=>e=.returned (.bool true)/\∃P2 Y2,Lw w0 P2 w' yb Y2 N (M+100)/\(Y2.ps=Y.ps/\Y2.psv=Y.psv):=by
 obtain⟨l,ra,rc,hl,xk,hs⟩:=a2Z h hi;have HS:=hid hs;have HR:=hid xk;have HL:Hid (l.length<=1000000):=hid R4;have HM:=hid hM;clear hs xk h hi hl hM;go_enter func10,ntmps10;go_wp2_with (first | (go_at_call 22;refine (HS.out _ P8).mono ?_;rintro e w1 ⟨oa,oc,rfl,xe,xg,P1,xm,xj⟩;have xa:=hid xm;have xt:=hid xj;have xs:=hid xg;have xu:L0d w w1:=(by repeat (first | exact L3b _ _ | refine L3a ?_ Q2 _):L0d w _).trans (xe.mono R5);have c1:w1.cell? ⟨w.heap.size,1,none⟩=some (.pointer (some ⟨cb,0,none⟩)):=keep xe R5 Q9;obtain ⟨c3,xd⟩:=HR.out w1 xu;have xq:=hid xd;have xw:w.heap.size < w1.heap.size:=(by have:=xe.size;simp at this;omega);clear xm xj xg xd) | (go_at_call 23;refine (nV xs.out xq.out HL.out).mono ?_;rintro e w2 ⟨rfl,xf⟩;have xo:=hid xf;have xv:=xf.size;clear xf) | (go_at_call 24;refine (a2M (xa.out.below xo.out).sep xa.out.p0 xa.out.law xt.out R3 HL.out (by have:=xa.out.len 1;have:=HM.out;omega)).mono ?_;rintro e w3 ⟨rfl,P2,Y2,xl,xh,xi,xn,xr,xc,xp⟩;have HW:Hid (Lw w0 P2 w3 yb Y2 N (M+100)/\(Y2.ps=Y.ps/\Y2.psv=Y.psv)):=hid ⟨(xa.out.below xo.out).book xl xh xi xn (fun q hq=>by rw [hq];decide) xc.ps (fun j=>by by_cases e:j=1;(rw [e,xc.lj];have:=xa.out.len 1;omega);(rw [xc.l j e];have:=xa.out.len j;omega)) R4 xp,xc.ps,xc.psv⟩;clear xl xh xi xn xr xc xp))
 go_ret;exact⟨rfl,P2,Y2,HW.out⟩
end
end Go.Proofs.YtbkmgoffiigdbaaGreatDoor
