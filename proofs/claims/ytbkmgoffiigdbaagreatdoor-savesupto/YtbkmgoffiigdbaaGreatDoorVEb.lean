import Derived.Test.YtbkmgoffiigdbaaGreatDoorVEa
namespace Go.Proofs.YtbkmgoffiigdbaaGreatDoor
open Go.RowKit Go.Sort Go.Proofs.Tryz
set_option maxHeartbeats 4000000
set_option maxRecDepth 100000
theorem a9I:(prog.info? 4).map (fun i=>(i.zero,i.size,i.bytes))=some (some (.bool false),1,1):=by kernel_rfl
def sH (N:Nat) (l:List Val):Prop:=∀v,v∈l->v.1=2->0<=v.2/\v.2.toNat < N
theorem X5.drew {W:World} {B N tb kb rb:Nat} {mv:Value} {met:List Nat} (h:X5 W B N tb kb rb mv met):X5 W.drew B N tb kb rb mv met:=⟨h.t0,h.tz,h.k0,h.row,h.known,h.tB,h.kB,h.rB,h.ne,h.mvn⟩
theorem a1l {obs:List Ob} {met:List Nat} {i:Nat} (h:met.length<=i):∀n,G8 obs n i met=met
 | 0=>rfl
 | n+1=>by rw [G8,List.getElem?_eq_none h]
def cE (met:List Nat) (w:World) (e:Ending) (w':World):Prop:=∃v,e=.returned v/\w'.ownsRow w.heap.size 3 1 v met.length (cY met)/\L0d w w'
theorem a0i (N:Nat):(madeCells #[.bool false] N).toList=gB N []:=by
 apply List.ext_getElem?
 intro j;simp[madeCells,gB,Nat.mod_one]
theorem a0k (w:World) (N:Nat) (hN:N<=1000):X5 (((w.alloc (.cells #[zD] 24)).alloc (.cells (madeCells #[.bool false] N) 4)).alloc (.cells #[.slice (some ⟨w.heap.size+1,0,none⟩) N N] 259)) w.heap.size N w.heap.size (w.heap.size+1+1) (w.heap.size+1) zD []:=by
 refine⟨by go_simp,by go_simp,by go_simp,World.ownsRow_nil _ _ _ _,?_,⟨L1c _,by simp;omega⟩,⟨by omega,by simp⟩,⟨by omega,by simp⟩,⟨by omega,by omega,by omega⟩,fun b hb=>by cases hb⟩;refine World.ownsRow.alloc ?_ _;have:=World.ownsRow_lit (base:=w.heap.size) (e:=4) (size:=1) (w.alloc (.cells #[zD] 24)) (madeCells #[.bool false] N) N R6 Q7 (by rw [size_madeCells];simp)
 rw[a0i] at this;simpa using this
theorem xH {own:Own} {mb:Nat} {g:PgR} {R:McR} {w:World} (h:A4 w own mb g R) (hpos:0 < R.obs.length) (hn:R.obs.length<=1000) (hob:∀o,o∈R.obs->sH R.obs.length o.fl/\o.fl.length<=1000) (a:Option Addr) (l:List Val) (c:Nat) (hl:l.length<=3000000) (hs:iP w w.heap.size a l) (hr:sH R.obs.length l) :
  Calls prog 188 #[.pointer (some ⟨mb,4,none⟩),.slice a l.length c] w fun e w'=>cE (M0 (R.obs.map ObR.abs) l) w e w':=by
 have c4:=h.c4;have yv:mb < w.heap.size:=h.lt mb _ h.me;obtain⟨hb,hc,e,_,yz⟩:=h.slots.1.form hpos;rw[e] at c4;obtain⟨i4,hi,hz,xo,xs⟩:=info_parts a9I;have xt:Hid (∀W:World,(Instr.makeSlice 259 (J (R.obs.length:Int)) (J (R.obs.length:Int))).run prog W=.ok (.slice (zA W.heap.size) R.obs.length R.obs.length) (W.alloc (.cells (madeCells #[.bool false] R.obs.length) 4))):=by
  intro W;have hr:=run_make (P:=prog) W 259 4 i4 _ underlying259 hi hz .i64 .i64 R.obs.length R.obs.length R5 (Int.le_refl _) (by rw [xs];omega) R5;simpa [xo,Value.cells] using hr
 have yf:=xt.out;have xg:=hid (a0k w R.obs.length hn);have xq:L0d w (((w.alloc (.cells #[zD] 24)).alloc (.cells (madeCells #[.bool false] R.obs.length) 4)).alloc (.cells #[.slice (some ⟨w.heap.size+1,0,none⟩) R.obs.length R.obs.length] 259)):=P5
 have xk:=hid xq;have HH:=hid h;have HE:=hid e;have yg:=hid hob;have HS:Hid (∀W,L0d w W->iP W w.heap.size a l):=fun W hW h0=>by
  obtain⟨b,h1,h2,h3⟩:=hs h0;refine⟨b,h1,h2,fun i x hx=>?_⟩;rw[hW.cell (p:=⟨b,_,none⟩) h2,hW.cell (p:=⟨b,_,none⟩) h2];exact h3 i x hx
 have HR:=hid hr;clear hi hz xo xs xt h e hob hs hr xq;go_enter func188,ntmps188;go_wp2_with fail;refine (wS w.heap.size R.obs.length w.heap.size (w.heap.size+1+1) (w.heap.size+1) _ [] _ xg.out hn ⟨List.nodup_nil,by simp⟩ a l c hl (HS.out _ xk.out) HR.out xk.out.size).mono ?_;rintro e w2 ⟨rfl,⟨yk,xr⟩,hb2⟩;have yh:=hid xr;have xv:L0d w w2:=xk.out.trans hb2
 have ym:=hid xv;clear xr hb2 xv yf c4 xg xk;go_wp2_with fail;go_loopw [8] (fun vi wr=>∃(i:Nat) (xa:List Nat),i<=R.obs.length/\vi=J i/\(∃xf,X5 wr w.heap.size R.obs.length w.heap.size (w.heap.size+1+1) (w.heap.size+1) xf xa)/\xa.Nodup/\(∀j,j∈xa->j < R.obs.length)/\G8 (R.obs.map ObR.abs) (R.obs.length - i) i xa=M0 (R.obs.map ObR.abs) l/\L0d w wr) (fun vi _=>R.obs.length - (intOf vi).toNat)
 case atStart=>exact ⟨0,C1 [] l,L4c _,rfl,⟨yk,yh.out⟩,W0 _ _ List.nodup_nil,cM R6 fun v hv h2=>(HR.out v hv h2).2,by simp [M0],ym.out⟩
 case round =>
  obtain⟨i,xa,hi,rfl,⟨xf,hm⟩,hnd,hlt',hwk,hbel⟩:=hrel;have ys:=L7 hnd hlt';obtain⟨ma,mc,yn⟩:∃ma mc,xf=.slice ma xa.length mc:=by
   rcases hm.row.2 with ⟨e,e0⟩ | ⟨gb,yq,_,e,_⟩
   ·exact ⟨none,0,by rw [e,e0]⟩
   ·exact ⟨_,_,e⟩
  subst yn;have t0:=hm.t0;have yp:w.heap.size < wr.heap.size:=hm.tB.2;have xj:=hbel.size;have HM:=hid hm;have xc:=hid hbel;have xp:=hid hnd;have xz:=hid hlt';have yc:=hid hwk;by_cases hlti:i < xa.length
  ·obtain ⟨j,hj⟩:∃j,xa[i]?=some j:=⟨_,L1b hlti⟩
   have ya:j < R.obs.length:=hlt' j (L2a hj);obtain⟨o,ho⟩:∃o,R.obs[j]?=some o:=⟨_,L1b ya⟩
   obtain⟨gb,gc,yj,_,yu⟩:=hm.row.form R5
   cases yj;have yo:wr.cell? ⟨gb,i,none⟩=some (J (j:Int)):=by
    rw[hm.row.cellAt i R5];unfold cY;rw[List.getElem?_map,hj];rfl
   have xe:=HH.out.same hbel.size fun k hk=>hbel.block k hk
   obtain⟨yx,yr,fa,fc,xw,_,yy,xn,k0,k1⟩:=xe.slot ho;rw[HE.out] at xw
   cases xw;have m4:=xe.c4;rw[HE.out] at m4;have yi:mb < wr.heap.size:=xe.lt mb _ xe.me;have xb:Hid (G8 (R.obs.map ObR.abs) (R.obs.length - (i+1)) (i+1) (if o.kind=3 then xa else C1 xa o.fl)=M0 (R.obs.map ObR.abs) l):=by
    refine hid ?_;rw[<- hwk,show R.obs.length - i=(R.obs.length - (i+1))+1 by omega,G8,hj];simp only[List.getElem?_map,ho,Option.map_some];rfl
   have xl:=hid (yg.out o (L2a ho));have yb:Hid (∀W,L0d wr W->iP W w.heap.size fa o.fl):=fun W hW h0=>by
    have xy:=HH.out.fld j o ho;obtain⟨fb,za,xx,_,xm⟩:=xy.1.form h0;rw[xn] at xx
    cases xx;have xh:=xy.1;rw[xn] at xh;refine⟨fb,rfl,xm,fun t x hx=>?_⟩;have yw:=(L1a.1 hx).1;have xd:∀q,q < 2->W.cell? ⟨fb,t*2+q,none⟩=(O9 x)[q]?:=fun q hq=>by
     rw[hW.cell (p:=⟨fb,_,none⟩) (L0a xm xj),xc.out.cell (p:=⟨fb,_,none⟩) xm,xh.cellAt _ R5];exact D3 E6 hx hq
    exact⟨xd 0 R5,xd 1 R5⟩
   have xi:Hid (∀W c,L0d wr W->X5 W w.heap.size R.obs.length w.heap.size (w.heap.size+1+1) (w.heap.size+1) (.slice (zA gb) xa.length mc) xa->Calls prog 226 #[.slice fa o.fl.length c,.pointer (some ⟨w.heap.size+1+1,0,none⟩),zB w.heap.size] W fun e w'=>e=.returned (.tuple #[])/\(∃xf,X5 w' w.heap.size R.obs.length w.heap.size (w.heap.size+1+1) (w.heap.size+1) xf (C1 xa o.fl))/\Below w.heap.size W w'):=fun W c hW xe=>wS _ _ _ _ _ _ xa W xe hn ⟨hnd,hlt'⟩ fa o.fl c (by have:=xl.out.2;omega) (yb.out W hW) xl.out.1 (L5a xj hW.size)
   clear hm hbel hnd hlt' hwk xe xn hj ho;go_wp2_with fail;go_region
   all_goals
    by_cases h3:o.kind=3
    ·rw [if_pos h3] at xb
     have yl:(o.kind != 3)=false:=by rw [h3];rfl
     go_wp2_with fail;go_roundw
     case rel=>exact ⟨i+1,xa,by omega,by go_num,⟨_,(HM.out.alloc _).drew⟩,xp.out,xz.out,xb.out,L3c (L3a xc.out xj _)⟩
     case measure=>simp [intOf];omega
    ·rw [if_neg h3] at xb
     have yl:(o.kind != 3)=true:=bne_iff_ne.2 h3;go_wp2_with (go_at_call 226;refine (xi.out _ _ ?_ ?_).mono ?_;exact P5;exact (HM.out.alloc _).drew;rintro e w3 ⟨rfl,⟨yt,xu⟩,hb3⟩;have ye:=hid xu;have yd:Hid (L0d w w3):=Below.trans (L3c (L3a xc.out xj _)) hb3;clear xu hb3)
     go_roundw
     case rel=>exact ⟨i+1,_,by omega,by go_num,⟨_,ye.out⟩,W0 _ _ xp.out,cM xz.out fun v hv h2=>(xl.out.1 v hv h2).2,xb.out,yd.out⟩
     case measure=>simp [intOf];omega
  ·clear hm hbel hnd hlt' hwk
   go_wp2_with fail;go_ret;refine⟨_,rfl,?_,xc.out⟩;rw[<- yc.out,a1l R5];exact HM.out.row
section
variable {B mb:Nat} {R:McR} {W w:World} {g:PgR} {own:Own} {v:Value}
structure aL (R:McR):Prop where
 pos:0 < R.obs.length
 n:R.obs.length<=1000
 weak:nS R.obs
 refs:∀o,o∈R.obs->sH R.obs.length o.fl/\o.fl.length<=1000
 frn:R.frs.length<=1000
 fr:∀f,f∈R.frs->f.loc.length<=1000/\f.stk.length<=1000
 roots:sH R.obs.length (O1 R.frs)
theorem iP.of_owns {B':Nat} {l:List Val} (h:W.ownsRow B 92 2 v l.length (A7 l)) (hB:W.heap.size<=B'):∃a c,v=.slice a l.length c/\iP W B' a l:=by
 rcases id h.2 with ⟨e,e0⟩ | ⟨gb,xb,xc,e,_,hg,_⟩
 ·exact ⟨none,0,by rw [e,e0],fun h0=>by omega⟩
 ·subst e
  refine⟨_,_,rfl,fun h0=>⟨gb,rfl,L0a (W3 h).2 hB,fun i x hx=>?_⟩⟩;have hi:=(L1a.1 hx).1;have xa:∀t,t < 2->W.cell? ⟨gb,i*2+t,none⟩=(O9 x)[t]?:=fun t ht=>by
   rw[h.cellAt _ R5];exact D3 E6 hx ht
  exact⟨xa 0 R5,xa 1 R5⟩
theorem Y8.of_owns {l:List Nat} (h:W.ownsRow B 3 1 v l.length (cY l)):∃a c,v=.slice a l.length c/\Y8 W a l/\∀b,a=some ⟨b,0,none⟩->B<=b/\b < W.heap.size:=by
 rcases id h.2 with ⟨e,e0⟩ | ⟨gb,xa,xb,e,hB,hg,_⟩
 ·exact ⟨none,0,by rw [e,e0],fun h0=>by omega,fun b hb=>by cases hb⟩
 ·subst e
  refine⟨_,_,rfl,fun h0=>⟨gb,rfl,(W3 h).2,fun i x hx=>?_⟩,fun b hb=>?_⟩
  ·have hi:=(L1a.1 hx).1
   rw[h.cellAt i R5];unfold cY;rw[List.getElem?_map,hx];rfl
  ·cases hb;exact ⟨hB,(W3 h).2⟩
theorem lE (h:A4 w own mb g R) (ho:aL R) :
  Calls prog 141 #[zB mb] w fun e w'=>cE (A0 R.abs) w e w':=by
 have xe:A0 R.abs=M0 (R.obs.map ObR.abs) (O1 R.frs):=by
  unfold A0;rw[<- mQ];rfl
 rw[xe];have HV:Hid (∀W,L0d w W->Calls prog 189 #[.pointer (some ⟨mb,3,none⟩)] W fun e w'=>nR (O1 R.frs) W e w'):=fun W hW=>xY (h.same hW.size fun k hk=>hW.block k hk) ho.frn ho.fr
 have xf:(O1 R.frs).length<=3000000:=by
  have:=xX R.frs 1000 ho.fr;have h2:R.frs.length*(2*1000)<=1000*(2*1000):=Nat.mul_le_mul_right _ ho.frn;omega
 have xi:Hid (∀U W v,L0d w U->L0d U W->W.ownsRow U.heap.size 92 2 v (O1 R.frs).length (A7 (O1 R.frs))->Calls prog 188 #[.pointer (some ⟨mb,4,none⟩),v] W fun e w'=>cE (M0 (R.obs.map ObR.abs) (O1 R.frs)) w e w'):=by
  intro U W v hU hW hown;have hB:=A3 hW hU;obtain⟨a,c,rfl,xg⟩:=iP.of_owns hown (L1c _);refine (xH (h.same hB.size fun k hk=>hB.block k hk) ho.pos ho.n ho.refs a _ c xf xg ho.roots).mono ?_;rintro e w' ⟨v,rfl,hv,hb⟩;exact⟨v,rfl,E1 hv hB.size,A3 hb hB⟩
 clear h ho xe xf;generalize M0 (R.obs.map ObR.abs) (O1 R.frs)=met at *
 go_enter func141,ntmps141;go_wp2_with fail;go_region_with (first | (go_at_call 189;refine (HV.out _ ?_).mono ?_;exact P5;rintro e w2 ⟨v2,rfl,xa,xd⟩;have xh:=hid (xi.out _ w2 v2 P5 xd xa);clear xa xd) | (go_at_call 188;refine xh.out.mono ?_;rintro e w3 ⟨v3,rfl,xc,xb⟩;have xj:=hid xc;have xk:=hid xb;clear xc xb))
 all_goals
  go_wp2_with fail;go_ret;exact⟨v3,rfl,xj.out,xk.out⟩
def fM (own:Own) (mb:Nat) (g:PgR) (R:McR) (w:World) (e:Ending) (w':World):Prop :=
 e=.returned (J ((taken R.obs:Int) - (taken (K7 R.obs (A0 R.abs)):Int)))/\A4 w' own mb g { R with obs:=K7 R.obs (A0 R.abs) }/\G0 own w w'
theorem mE (h:A4 w own mb g R) (ho:aL R) (hal:(A0 R.abs).length<=1000) :
  Calls prog 102 #[zB mb] w fun e w'=>fM own mb g R w e w':=by
 have HA:Hid (∀W,L0d w W->Calls prog 141 #[zB mb] W fun e w'=>cE (A0 R.abs) W e w'):=fun W hW=>lE (h.same hW.size fun k hk=>hW.block k hk) ho
 have xh:Hid (∀U W v,L0d w U->L0d U W->W.ownsRow U.heap.size 3 1 v (A0 R.abs).length (cY (A0 R.abs))->Calls prog 140 #[.pointer (some ⟨mb,4,none⟩),v] W fun e w'=>fM own mb g R w e w'):=by
  intro U W v hU hW hown;have hB:=A3 hW hU;obtain⟨a,c,rfl,xg,xi⟩:=Y8.of_owns hown;refine (a4a (h.same hB.size fun k hk=>hB.block k hk) ho.pos ho.n ho.weak a (A0 R.abs) c hal xg fun b hb=>?_).mono ?_
  ·cases e:own b with
   | none=>rfl
   | some t=>have:=h.lt b t e;have:=(xi b hb).1;have:=hU.size;omega
  ·rintro e w' ⟨rfl,hm,hb⟩
   exact⟨rfl,hm,(G0.of_below hB).trans hb⟩
 clear h ho hal;go_enter func102,ntmps102;go_wp2_with fail;go_region_with (first | (go_at_call 141;refine (HA.out _ ?_).mono ?_;exact P5;rintro e w2 ⟨v2,rfl,xa,xc⟩;have xf:=hid (xh.out _ w2 v2 P5 xc xa);clear xa xc) | (go_at_call 140;refine xf.out.mono ?_;rintro e w3 ⟨rfl,xd,xb⟩;have xe:=hid xd;have xj:=hid xb;clear xd xb))
 all_goals
  go_wp2_with fail;go_ret;exact⟨rfl,xe.out,xj.out⟩
end
section
variable {g:PgR}
theorem rP (hp:N3 g):∀(l:List FrA) (fn:Nat),fn < g.n->jO g fn l->∀f,f∈l->∃q,0<=q/\jM g f q
 | [],_,_,_,f,hf=>by cases hf
 | c::r,fn,hfn,h,f,hf=>by
  obtain⟨h1,_,_,h4⟩:=h;rcases List.mem_cons.1 hf with rfl | hf
  ·exact ⟨_,by have:=hp.sized.bd hfn;omega,h1⟩
  ·exact rP hp r c.fn h1.fn h4 f hf
theorem oJ (hp:N3 g) {l:List FrA} (h:sF g l):∀f,f∈l->∃q,0<=q/\jM g f q:=by
 intro f hf
 cases l with
 | nil=>cases hf
 | cons c r =>
  obtain⟨h1,h2⟩:=h;rcases List.mem_cons.1 hf with rfl | hf
  ·exact ⟨0,Int.le_refl _,h1⟩
  ·exact rP hp r c.fn h1.fn h2 f hf
theorem jM.bd (hp:N3 g) {f:FrA} {q:Int} (h:jM g f q) (hq:0<=q):f.loc.length<=8/\f.stk.length<=18/\f.pc < 60/\f.pc < (g.f f.fn).n:=by
 obtain⟨h1,h2,h3,h4⟩:=h.at hp;have hb:=hp.sized.bd h.fn;have hl:=h.loc;have xb:=(nG hp.sized hp.legal h.fn).pop_bd h1;have xa:=(bP ((g.f f.fn).op f.pc)).1;have h5:(f.stk.length:Int)+q - (B6 g (g.f f.fn)).pop f.pc+R7 ((g.f f.fn).op f.pc)<=10:=h4;refine⟨by omega,by omega,by omega,h1⟩
theorem C8.frame (hp:N3 g) {s:McA} (h:C8 g s) {f:FrA} (hf:f∈s.frs):f.loc.length<=8/\f.stk.length<=18/\f.pc < 60/\f.pc < (g.f f.fn).n:=by
 obtain⟨q,h0,hq⟩:=oJ hp h.frs f (List.mem_reverse.2 hf);exact hq.bd hp h0
theorem C8.heapOk (hp:N3 g) {R:McR} (h:C8 g R.abs):aL R:=by
 have xb:R.abs.obs.length=R.obs.length:=by simp [McR.abs]
 have xc:=h.cap;rw[xb] at xc;have xd:∀o,o∈R.obs->OOk R.abs.obs o.abs:=fun o ho=>h.obs o.abs (List.mem_map.2 ⟨o,ho,rfl⟩)
 have xa:∀v,VOk R.abs.obs v->v.1=2->0<=v.2/\v.2.toNat < R.obs.length:=fun v hv h2=>⟨(hv.ref h2).1,by have:=hv.lt h2;omega⟩
 have xe:∀f,f∈R.frs->f.abs∈R.abs.frs:=fun f hf=>List.mem_map.2 ⟨f,hf,rfl⟩
 refine⟨by omega,by omega,fun o ho hk=>?_,fun o ho=>⟨fun v hv h2=>xa v ((xd o ho).vals hv) h2,by have:o.fl.length<=12:=(xd o ho).len;omega⟩,?_,fun f hf=>?_,fun v hv h2=>?_⟩
 ·rcases xd o ho with h1 | h1 | h1 | ⟨_,u,hu,hvu,_⟩
  ·have:o.kind=0:=h1.1;omega
  ·have:o.kind=1:=h1.1;omega
  ·have:o.kind=2:=h1.1;omega
  ·exact ⟨u,hu,fun h2=>xa u hvu h2⟩
 ·have:=h.depth
  have e:R.abs.frs.length=R.frs.length:=by simp [McR.abs]
  omega
 ·have:=h.frame hp (xe f hf)
  have e1:f.abs.loc=f.loc:=rfl;have e2:f.abs.stk=f.stk:=rfl;rw[e1,e2] at this;omega
 ·rw [<- mQ] at hv
  obtain⟨f,hf,hv⟩:=I2.1 hv;exact xa v (h.vals f hf v hv) h2
theorem C8.alive_len {s:McA} (h:C8 g s):(A0 s).length<=1000:=by
 have:=L7 h.alive.nodup h.alive.lt;have:=h.cap.2;omega
theorem iX:∀(l:List Ob) (n:Nat),L3 l≠l.length->∃j,freeA l n=some j
 | [],_,h=>absurd rfl h
 | o::l,n,h=>by
  rw[freeA];by_cases h0:o.1=0
  ·exact ⟨n,if_pos h0⟩
  ·rw [if_neg h0]
   refine iX l (n+1) fun e=>h ?_
   unfold L3 at e ⊢;simp[h0,e]
theorem eU {obs:List Ob} {dr:List Int} (hpos:0 < obs.length) (h:L3 obs≠obs.length):∃j,eG obs dr=some j:=by
 obtain⟨j,hj⟩:=iX obs 0 h
 cases dr with
 | nil=>exact ⟨(j,[]),by simp only [eG,hj,Option.map_some]⟩
 | cons d r =>
  have h1:0<=d % (obs.length:Int):=Int.emod_nonneg _ R5;have h2:d % (obs.length:Int) < obs.length:=Int.emod_lt_of_pos _ R5;obtain⟨o,ho⟩:∃o,obs[(d % (obs.length:Int)).toNat]?=some o:=⟨_,L1b R5⟩
  by_cases h0:o.1=0
  ·exact ⟨_,by simp only [eG,ho];rw [if_pos h0]⟩
  ·exact ⟨_,by simp only [eG,ho];rw [if_neg h0,hj];rfl⟩
end
section
variable {R:McR} {W w:World} {args fl rest:List Val} {ds:List Int} {f:FrR} {fs:List FrR} {g:PgR} {j mb sb:Nat} {kind:Int} {own:Own} {va:Option Addr}
theorem C0.layNew {R:McR} (h:C0 w own mb g R fs f rest args va sb) (hB:L0d w W) (j:Nat) (ds:List Int) (hj:jR R.obs R.dr j ds) (hn:R.obs.length<=1000) (hdn:R.dr.length<=1000) (p:ObR) (nb nc:Nat) (hfv:p.fv=.slice (zA nb) p.fl.length nc) (hnew:S6 own g p.fv) (hrow:W.ownsRow 0 92 2 p.fv p.fl.length (A7 p.fl)) :
  Calls prog 118 #[.pointer (some ⟨mb,4,none⟩),.agg #[zC p.kind,.slice (zA nb) p.fl.length nc]] W fun e w'=>∃dv,e=.returned (J (j:Int))/\C0 w' (own.upd p.fv.ownBlock (.fld j)) mb g { R with dv:=dv,dr:=ds,obs:=R.obs.set j p } fs f rest args va sb/\nB own mb W w':=by
 have xb:=h.m.same hB.size fun k hk=>hB.block k hk
 have:=a1H xb j ds hj hn hdn p nb nc hfv hnew hrow;rw[hfv] at this;refine this.mono ?_;rintro e w' ⟨dv,rfl,hm,hb⟩;refine⟨dv,rfl,h.laid hm rfl (fun k i hk=>hnew.upd hk) (fun k i hk=>?_),hb⟩;have xa:=h.m.lt k _ hk;exact (hb.block k (L0a xa hB.size) (fun e=>by rw [e,h.m.me] at hk;cases hk) (by rw [hk];simp) (by rw [hk];simp)).trans (hB.block k xa)
theorem uH {w':World} {v:Value} (hme:own mb=some .mach) (hnew:∀b,v.ownBlock=some b->w.heap.size<=b) (ht:A2 own w own W) (hb:nB own mb W w'):A2 own w (own.upd v.ownBlock (.fld j)) w' :=
 ⟨hb.os.trans ht.os,hb.tape.trans ht.tape,hb.output.trans ht.output,L5a ht.size hb.size,fun k hk hn=>(hb.block k (L0a hk ht.size) (fun e=>by rw [e,hme] at hn;cases hn) (by rw [hn];simp) (by rw [hn];simp)).trans (ht.block k hk hn),fun k hk=>by
  unfold Own.upd;split
  ·rename_i e;have:=hnew k e;omega
  ·rfl⟩
def G7 (R:McR):McR:={ R with obs:=K7 R.obs (A0 R.abs) }
theorem rW (R:McR):(G7 R).abs=J4 R.abs:=by
 unfold G7 J4 McR.abs;simp only[qB]
theorem hY (R:McR):(G7 R).obs.length=R.obs.length:=fF _ _
theorem a2U {fs:List FrA} {f:FrA} (h1:taken R.obs=R.obs.length) (h2:taken (G7 R).obs=(G7 R).obs.length):X0 R.abs fs f rest kind fl={ (G7 R).abs with st:=6 }:=by
 have e:F9 R.abs=(G7 R).abs:=by
  unfold F9;rw[if_pos (by rw [show R.abs.obs=R.obs.map ObR.abs from rfl,<- U9,List.length_map];exact h1),rW]
 unfold X0;rw[e,if_pos (by rw [show (G7 R).abs.obs=(G7 R).obs.map ObR.abs from rfl,<- U9,List.length_map];exact h2)]
theorem a0l {fs:List FrA} {f:FrA} {j:Nat} (h1:taken R.obs=R.obs.length) (h2:taken (G7 R).obs≠(G7 R).obs.length) (hp:eG (G7 R).abs.obs R.dr=some (j,ds)) :
  X0 R.abs fs f rest kind fl=⟨0,R.out,fs++[⟨f.fn,f.pc+1,f.loc,rest++[(2,(j:Int))]⟩],(G7 R).abs.obs.set j (kind,fl),ds⟩:=by
 have e:F9 R.abs=(G7 R).abs:=by
  unfold F9;rw[if_pos (by rw [show R.abs.obs=R.obs.map ObR.abs from rfl,<- U9,List.length_map];exact h1),rW]
 unfold X0;rw[e,if_neg (by rw [show (G7 R).abs.obs=(G7 R).obs.map ObR.abs from rfl,<- U9,List.length_map];exact h2),show R.abs.dr=R.dr from rfl,hp];rfl
theorem a2V {fs:List FrA} {f:FrA} {j:Nat} (h1:taken R.obs≠R.obs.length) (hp:eG R.abs.obs R.dr=some (j,ds)) :
  X0 R.abs fs f rest kind fl=⟨0,R.out,fs++[⟨f.fn,f.pc+1,f.loc,rest++[(2,(j:Int))]⟩],R.abs.obs.set j (kind,fl),ds⟩:=by
 have e:F9 R.abs=R.abs:=by
  unfold F9;rw[if_neg (by rw [show R.abs.obs=R.obs.map ObR.abs from rfl,<- U9,List.length_map];exact h1)]
 unfold X0;rw[e,if_neg (by rw [show R.abs.obs=R.obs.map ObR.abs from rfl,<- U9,List.length_map];exact h1),show R.abs.dr=R.dr from rfl,hp];rfl
theorem nT (hq:F4 R) (h:C0 w own mb g R fs f rest args va sb) (hB:L0d w W) (ho:aL R) (hal:(A0 R.abs).length<=1000) (hdn:R.dr.length<=1000) (hfu:taken R.obs=R.obs.length) (p:ObR) (nb nc:Nat) (hfv:p.fv=.slice (zA nb) p.fl.length nc) (hnew:w.heap.size<=nb) (hrow:W.ownsRow 0 92 2 p.fv p.fl.length (A7 p.fl)) (k:Nat) (hk:args.length=k) (vc:Nat) :
  Calls prog 300 #[zB mb,.slice va k vc,zC p.kind,.slice (zA nb) p.fl.length nc] W fun e w'=>DoA own mb g (X0 R.abs (fs.map FrR.abs) f.abs rest p.kind p.fl) w e w':=by
 have xs:(taken R.obs == R.obs.length)=true:=beq_iff_eq.2 hfu;have xl:p.fv.ownBlock=some nb:=by rw [hfv];rfl
 have xk:S6 own g p.fv:=h.m.nobody xl hnew;have xx:Hid (∀U,L0d W U->Calls prog 305 #[.pointer (some ⟨mb,4,none⟩)] U fun e w'=>e=.returned (.bool true)/\L0d U w'):=by
  intro U hU;have xa:=A3 hU hB;have:=oM (h.m.same xa.size fun k hk=>xa.block k hk) ho.pos ho.n;rw[xs] at this;exact this
 have xz:Hid (∀U,L0d W U->Calls prog 102 #[zB mb] U fun e w'=>∃t,e=.returned (J t)/\C0 w' own mb g (G7 R) fs f rest args va sb/\A2 own w own w'/\w'.ownsRow 0 92 2 p.fv p.fl.length (A7 p.fl)):=by
  intro U hU;have xa:=A3 hU hB;refine (mE (h.m.same xa.size fun k hk=>xa.block k hk) ho hal).mono ?_;rintro e w' ⟨rfl,hm,hb⟩;refine⟨_,rfl,h.laid hm rfl (fun _ _ _=>rfl) (fun b i hb'=>?_),(A2.of_below xa).trans hb.touched,A6 hrow fun b hb'=>?_⟩
  ·have xt:=h.m.lt b _ hb'
   exact (hb.block b (L0a xt xa.size) (by rw [hb'];simp) (fun j=>by rw [hb'];simp)).trans (xa.block b xt)
  ·have h1:=(xk b hb').1
   have xu:=(hrow.lt b hb').2;exact (hb.block b (L0a xu hU.size) (by rw [h1];simp) (fun j=>by rw [h1];simp)).trans (hU.block b xu)
 have yb:Hid (∀V U,C0 V own mb g (G7 R) fs f rest args va sb->L0d V U->Calls prog 305 #[.pointer (some ⟨mb,4,none⟩)] U fun e w'=>e=.returned (.bool (taken (G7 R).obs == (G7 R).obs.length))/\L0d U w'):=by
  intro V U hV hU;exact oM (hV.m.same hU.size fun k hk=>hU.block k hk) (by rw [hY];exact ho.pos) (by rw [hY];exact ho.n)
 have xy:F4 (G7 R):=hq;have yj:=hid xk;have yl:=hid hfv;have ye:=hid xl;have HQ:=hid xy;have xv:=hid hfu;have xi:(G7 R).obs.length<=1000:=by rw [hY];exact ho.n
 have xo:0 < (G7 R).obs.length:=by rw [hY];exact ho.pos
 have yc:=h.m.me;clear h hB ho hal hfv hrow xs xl xk hq xy hfu;by_cases h2:taken (G7 R).obs=(G7 R).obs.length
 ·have yi:(taken (G7 R).obs == (G7 R).obs.length)=true:=beq_iff_eq.2 h2
  rw[a2U xv.out h2];go_enter func300,ntmps300;go_wp2_with fail;refine (xx.out _ (L3b _ _)).mono ?_;rintro e w2 ⟨rfl,xg⟩;have xn:=hid xg;clear xg;go_wp2_with fail;refine (xz.out _ xn.out).mono ?_;rintro e w3 ⟨t,rfl,xf,xe,xh⟩;have xc:=hid xf;have xm:=hid xe;clear xf xe xh;go_wp2_with fail;refine (yb.out w3 _ xc.out P5).mono ?_
  rintro e w4 ⟨rfl,xd⟩;have xb:Hid (L0d w3 w4):=A3 xd P5;clear xd;go_wp2_with fail;go_ret;exact⟨own,G7 R,rfl,xc.out.m.same xb.out.size fun k hk=>xb.out.block k hk,⟨rfl,HQ.out⟩,xm.out.trans (A2.of_below xb.out)⟩
 ·have yi:(taken (G7 R).obs == (G7 R).obs.length)=false:=L2c.2 h2
  have xp:L3 (G7 R).abs.obs≠(G7 R).abs.obs.length:=by
   rw[show (G7 R).abs.obs=(G7 R).obs.map ObR.abs from rfl,<- U9,List.length_map];exact h2
  obtain⟨⟨j,ds⟩,hj⟩:=eU (dr:=R.dr) (by rw [show (G7 R).abs.obs=(G7 R).obs.map ObR.abs from rfl,List.length_map];exact xo) xp;have ya:jR (G7 R).obs (G7 R).dr j ds:=pE hj;rw[a0l xv.out h2 hj];have yh:Hid (∀V U,C0 V own mb g (G7 R) fs f rest args va sb->V.ownsRow 0 92 2 p.fv p.fl.length (A7 p.fl)->L0d V U->Calls prog 118 #[.pointer (some ⟨mb,4,none⟩),.agg #[zC p.kind,.slice (zA nb) p.fl.length nc]] U fun e w'=>∃dv,e=.returned (J (j:Int))/\C0 w' (own.upd p.fv.ownBlock (.fld j)) mb g { G7 R with dv:=dv,dr:=ds,obs:=(G7 R).obs.set j p } fs f rest args va sb/\nB own mb U w'):=fun V U hV hr hU =>
   hV.layNew hU j ds ya xi hdn p nb nc yl.out yj.out (A6 hr fun b hb=>hU.block b (hr.lt b hb).2)
  clear ya xp hj;go_enter func300,ntmps300;go_wp2_with fail;refine (xx.out _ (L3b _ _)).mono ?_;rintro e w2 ⟨rfl,xg⟩;have xn:=hid xg;clear xg;go_wp2_with fail;refine (xz.out _ xn.out).mono ?_;rintro e w3 ⟨t,rfl,xf,xe,xh⟩;have xc:=hid xf;have xm:=hid xe;have yk:=hid xh;clear xf xe xh;go_wp2_with fail;refine (yb.out w3 _ xc.out P5).mono ?_
  rintro e w4 ⟨rfl,xd⟩;have xb:Hid (L0d w3 w4):=A3 xd P5;clear xd;go_wp2_with fail;refine (yh.out w3 w4 xc.out yk.out xb.out).mono ?_;rintro e w5 ⟨dv,rfl,xw,xq⟩;have xr:=hid xw;have yf:Hid (A2 own w (own.upd p.fv.ownBlock (.fld j)) w5):=uH yc (fun b hb=>by rw [ye.out] at hb;cases hb;exact hnew) (xm.out.trans (A2.of_below xb.out)) xq
  clear xw xq;go_wp2_with (first | (go_at_call 214;refine (dS _ _).mono ?_;rintro e w' ⟨rfl,o4,rfl⟩) | (go_at_call 290;refine (xr.out.answer P5 vc _ [(2,(j:Int))] (G9 xr.out.m Q4 (B0 R6)) R6 k hk).mono ?_;rintro e w' ⟨xj,ym,rfl,hm,ht⟩;have yd:=hid hm;have yg:=hid ht;clear hm ht))
  go_ret;refine⟨xj,_,rfl,yd.out,⟨?_,HQ.out⟩,yf.out.trans yg.out⟩;simp[McR.abs,FrR.abs,ObR.abs,List.map_set,G7]
theorem dJ (hq:F4 R) (h:C0 w own mb g R fs f rest args va sb) (hB:L0d w W) (ho:aL R) (hal:(A0 R.abs).length<=1000) (hdn:R.dr.length<=1000) (p:ObR) (nb nc:Nat) (hfv:p.fv=.slice (zA nb) p.fl.length nc) (hnew:w.heap.size<=nb) (hrow:W.ownsRow 0 92 2 p.fv p.fl.length (A7 p.fl)) (k:Nat) (hk:args.length=k) (vc:Nat) :
  Calls prog 300 #[zB mb,.slice va k vc,zC p.kind,.slice (zA nb) p.fl.length nc] W fun e w'=>DoA own mb g (X0 R.abs (fs.map FrR.abs) f.abs rest p.kind p.fl) w e w':=by
 by_cases hfu:taken R.obs=R.obs.length
 ·exact nT hq h hB ho hal hdn hfu p nb nc hfv hnew hrow k hk vc
 ·obtain ⟨⟨j,ds⟩,hj⟩:=eU (obs:=R.abs.obs) (dr:=R.dr) (by rw [show R.abs.obs=R.obs.map ObR.abs from rfl,List.length_map];exact ho.pos) (by rw [show R.abs.obs=R.obs.map ObR.abs from rfl,<- U9,List.length_map];exact hfu)
  refine (sL h hB j ds (pE hj) ho.n hdn p nb nc hfv hnew hrow k hk vc).mono ?_;rintro e w' ⟨xa,R',rfl,hm,⟨xb,xc,rfl⟩,ht⟩;rw[a2V hfu hj];exact⟨xa,_,rfl,hm,⟨by simp [McR.abs,FrR.abs,ObR.abs,List.map_set],hq⟩,ht⟩
end
section
variable {R:McR} {f:FrR} {fs:List FrR} {g:PgR} {mb sb:Nat} {own:Own} {rest:List Val} {va:Option Addr} {w:World} {x:Val}
theorem vX (h:C0 w own mb g R fs f rest [x] va sb) (hk:x.1≠2) (a:Int) (vc:Nat) :
  Calls prog 279 #[zB mb,J a,.slice va 1 vc] w fun e w'=>F7 2 w e w':=by
 obtain⟨o,rfl,xa,c0,c1⟩:=h.one;have h1:(x.1 == 2)=false:=L2c.2 hk;clear h hk;go_enter func279,ntmps279;go_wp2_with (first | (go_at_call 164;refine (O7 _ _ _).mono ?_;rintro e w' ⟨rfl,o4,rfl⟩))
 go_ret;exact⟨rfl,P5⟩
theorem a2w (hq:F4 R) (n:Int) (h:C0 w own mb g R fs f rest [(2,n)] va sb) (ho:aL R) (hal:(A0 R.abs).length<=1000) (hdn:R.dr.length<=1000) (a:Int) (vc:Nat) :
  Calls prog 279 #[zB mb,J a,.slice va 1 vc] w fun e w'=>DoA own mb g (X0 R.abs (fs.map FrR.abs) f.abs rest 3 [(2,n)]) w e w':=by
 obtain⟨o,rfl,xd,c0,c1⟩:=h.one;simp only at c0 c1;have xc:Hid (∀W nb,L0d w W->W.heap.size=nb->Calls prog 300 #[zB mb,.slice (some ⟨sb,o,none⟩) 1 vc,zC 3,.slice (zA nb) 1 1] (W.alloc (Obj.cells #[zC 2,J n] 92)) fun e w'=>DoA own mb g (X0 R.abs (fs.map FrR.abs) f.abs rest 3 [(2,n)]) w e w'):=by
  rintro W _ hW rfl;have xb:(W.alloc (Obj.cells #[zC 2,J n] 92)).ownsRow 0 92 2 (.slice (zA W.heap.size) 1 1) 1 (A7 [(2,n)]):=by
   have:=World.ownsRow_lit (base:=0) (e:=92) (size:=2) W #[zC 2,J n] 1 (L4c _) Q7 rfl;exact this
  exact dJ hq h (L3a hW hW.size _) ho hal hdn ⟨3,.slice (zA W.heap.size) 1 1,[(2,n)]⟩ W.heap.size 1 rfl hW.size xb 1 rfl vc
 clear h ho hal hdn hq;generalize X0 R.abs (fs.map FrR.abs) f.abs rest 3 [(2,n)]=s at *
 go_enter func279,ntmps279;go_wp2_with (first | (go_at_call 164;refine (O7 _ _ _).mono ?_;rintro e w' ⟨rfl,o4,rfl⟩) | (go_at_call 300;refine (xc.out _ _ ?_ ?_).mono ?_;exact P5;exact R6;rintro e w' ⟨xa,R',rfl,hm,hp,ht⟩))
 try go_region_with (first | (go_at_call 300;refine (xc.out _ _ ?_ ?_).mono ?_;exact P5;exact R6;rintro e w' ⟨xa,R',rfl,hm,hp,ht⟩))
 all_goals
  go_wp2_with fail;go_ret;exact⟨xa,R',rfl,hm,hp,ht⟩
theorem a7H (hq:F4 R) (h:C0 w own mb g R fs f rest [x] va sb) (ho:aL R) (hal:(A0 R.abs).length<=1000) (hdn:R.dr.length<=1000) (a:Int) (vc:Nat) :
  Calls prog 279 #[zB mb,J a,.slice va 1 vc] w fun e w'=>DoA own mb g (doA g 18 a R.abs (fs.map FrR.abs) f.abs rest [x]) w e w':=by
 obtain⟨x1,x2⟩:=x;by_cases h1:x1=2
 ·subst h1
  have e:doA g 18 a R.abs (fs.map FrR.abs) f.abs rest [(2,x2)]=X0 R.abs (fs.map FrR.abs) f.abs rest 3 [(2,x2)]:=by
   simp[doA]
  rw[e];exact a2w hq x2 h ho hal hdn a vc
 ·have e:doA g 18 a R.abs (fs.map FrR.abs) f.abs rest [(x1,x2)]=D4 R.abs 2:=by
   simp only[doA];rw[if_neg h1]
  rw[e];exact (vX h h1 a vc).mono fun _ _ ht=>ht.doA h.m hq
def bU (al:List Nat) (v:Val):Val:=if v.1=2/\v.2.toNat∈al then v else (0,0)
theorem wK (mb:Nat) (w:World) :
  Calls prog 303 #[zB mb,.agg #[zC 0,J 0]] w fun e w'=>e=.returned (.agg #[zC 0,J 0])/\L0d w w':=by
 go_enter func303,ntmps303;go_wp2_with fail
 first | (go_region_with (first | (go_at_call 164;refine (O7 _ _ _).mono ?_;rintro e w' ⟨he,o4,rfl⟩;have xa:e=.returned (.bool false):=(by rw [he];rfl);clear he;subst xa))) | fail
 all_goals
  go_wp2_with fail;exact bodyPost_ret (v:=.agg #[zC 0,J 0]) (by simp [results,results303,go_sem]) rfl ⟨rfl,P5⟩
theorem wJ (h:A4 w own mb g R) (ho:aL R) (hal:(A0 R.abs).length<=1000) (v:Val) (hv:v=(0,0)\/(v.1=2/\0<=v.2)) :
  Calls prog 303 #[zB mb,.agg #[zC v.1,J v.2]] w fun e w'=>e=.returned (.agg #[zC (bU (A0 R.abs) v).1,J (bU (A0 R.abs) v).2])/\L0d w w':=by
 rcases hv with rfl | ⟨h2,h0⟩
 rotate_left
 ·obtain ⟨v1,v2⟩:=v
  simp only at h2 h0;subst h2;obtain⟨n,rfl⟩:=L5c h0;have HA:Hid (∀W,L0d w W->Calls prog 141 #[zB mb] W fun e w'=>cE (A0 R.abs) W e w'):=fun W hW=>lE (h.same hW.size fun k hk=>hW.block k hk) ho
  have HC:Hid (∀U W a c,W.ownsRow U 3 1 (.slice a (A0 R.abs).length c) (A0 R.abs).length (cY (A0 R.abs))->Calls prog 186 #[.slice a (A0 R.abs).length c,J (n:Int)] W fun e w'=>e=.returned (.bool (decide (n∈A0 R.abs)))/\L0d W w'):=fun U W a c hown=>by
   obtain⟨a',c',e,xm,_⟩:=Y8.of_owns hown
   cases e;exact jZ a _ c n W hal xm
  have xk:Hid (bU (A0 R.abs) (2,(n:Int))=if n∈A0 R.abs then (2,(n:Int)) else (0,0)):=by
   refine hid ?_;unfold bU;by_cases hm:n∈A0 R.abs
   ·rw [if_pos ⟨rfl,by simpa using hm⟩,if_pos hm]
   ·rw [if_neg (fun e=>hm (by simpa using e.2)),if_neg hm]
  generalize A0 R.abs=al at *
  clear h ho h0;by_cases hm:n∈al
  ·have hd:decide (n∈al)=true:=decide_eq_true hm
   rw[xk.out,if_pos hm];simp only;go_enter func303,ntmps303;go_wp2_with fail;go_region_with (first | (go_at_call 164;refine (O7 _ _ _).mono ?_;rintro e w' ⟨rfl,o4,rfl⟩) | (go_at_call 141;refine (HA.out _ ?_).mono ?_;exact P5;rintro e w2 ⟨v2,rfl,xe,xc⟩;obtain ⟨a2,c2,rfl,_,_⟩:=Y8.of_owns xe;have q0:w2.cell? ⟨w.heap.size,0,none⟩=some (zC 2):=(xc.cell (p:=⟨w.heap.size,0,none⟩) Q2).trans R3;have q1:w2.cell? ⟨w.heap.size,1,none⟩=some (J (n:Int)):=(xc.cell (p:=⟨w.heap.size,1,none⟩) Q2).trans R3;have xd:w.heap.size < w2.heap.size:=L0a Q2 xc.size;have s0:w2.cell? ⟨w.heap.size+1,0,none⟩=some (zC 0):=(xc.cell (p:=⟨w.heap.size+1,0,none⟩) Q2).trans R3;have s1:w2.cell? ⟨w.heap.size+1,1,none⟩=some (J 0):=(xc.cell (p:=⟨w.heap.size+1,1,none⟩) Q2).trans R3;have y0:w2.frozen? ⟨w.heap.size+1,0,none⟩=false:=(xc.frozen (p:=⟨w.heap.size+1,0,none⟩) Q2).trans R3;have y1:w2.frozen? ⟨w.heap.size+1,1,none⟩=false:=(xc.frozen (p:=⟨w.heap.size+1,1,none⟩) Q2).trans R3;have xa:w.heap.size+1 < w2.heap.size:=L0a Q2 xc.size;have xj:=hid xe;have xh:Hid (L0d w w2):=A3 xc P5;clear xe xc) | (go_at_call 186;go_must (refine (HC.out _ _ _ _ xj.out).mono ?_);rintro e w3 ⟨xf,xb⟩;rw [hd] at xf;subst xf;have r0:=(xb.cell (p:=⟨w.heap.size,0,none⟩) (by first | exact xd | simpa using xd)).trans q0;have r1:=(xb.cell (p:=⟨w.heap.size,1,none⟩) (by first | exact xd | simpa using xd)).trans q1;have xq:w.heap.size < w3.heap.size:=L0a xd xb.size;have xo:=(xb.cell (p:=⟨w.heap.size+1,0,none⟩) xa).trans s0;have xn:=(xb.cell (p:=⟨w.heap.size+1,1,none⟩) xa).trans s1;have xp:=(xb.frozen (p:=⟨w.heap.size+1,0,none⟩) xa).trans y0;have xl:=(xb.frozen (p:=⟨w.heap.size+1,1,none⟩) xa).trans y1;have xg:w.heap.size+1 < w3.heap.size:=L0a xa xb.size;have xi:Hid (L0d w w3):=A3 xb (by repeat (first | exact xh.out | refine L3c ?_));clear xb))
   all_goals
    go_wp2_with fail;have u0:(w3.setCell ⟨w.heap.size+1,0,none⟩ (zC 2)).cell? ⟨w.heap.size+1,0,none⟩=some (zC 2):=by go_simp
    have u1:((w3.setCell ⟨w.heap.size+1,0,none⟩ (zC 2)).setCell ⟨w.heap.size+1,1,none⟩ (J (n:Int))).cell? ⟨w.heap.size+1,1,none⟩=some (J (n:Int)):=by go_simp
    exact bodyPost_ret (v:=.agg #[zC 2,J (n:Int)]) (by simp [results,results303,go_sem,u0,u1]) rfl ⟨rfl,Below.setCell (Below.setCell xi.out (Nat.le_succ _) _) (Nat.le_succ _) _⟩
  ·have hd:decide (n∈al)=false:=decide_eq_false hm
   rw[xk.out,if_neg hm];simp only;go_enter func303,ntmps303;go_wp2_with fail;go_region_with (first | (go_at_call 164;refine (O7 _ _ _).mono ?_;rintro e w' ⟨rfl,o4,rfl⟩) | (go_at_call 141;refine (HA.out _ ?_).mono ?_;exact P5;rintro e w2 ⟨v2,rfl,xe,xc⟩;obtain ⟨a2,c2,rfl,_,_⟩:=Y8.of_owns xe;have q0:w2.cell? ⟨w.heap.size,0,none⟩=some (zC 2):=(xc.cell (p:=⟨w.heap.size,0,none⟩) Q2).trans R3;have q1:w2.cell? ⟨w.heap.size,1,none⟩=some (J (n:Int)):=(xc.cell (p:=⟨w.heap.size,1,none⟩) Q2).trans R3;have xd:w.heap.size < w2.heap.size:=L0a Q2 xc.size;have s0:w2.cell? ⟨w.heap.size+1,0,none⟩=some (zC 0):=(xc.cell (p:=⟨w.heap.size+1,0,none⟩) Q2).trans R3;have s1:w2.cell? ⟨w.heap.size+1,1,none⟩=some (J 0):=(xc.cell (p:=⟨w.heap.size+1,1,none⟩) Q2).trans R3;have y0:w2.frozen? ⟨w.heap.size+1,0,none⟩=false:=(xc.frozen (p:=⟨w.heap.size+1,0,none⟩) Q2).trans R3;have y1:w2.frozen? ⟨w.heap.size+1,1,none⟩=false:=(xc.frozen (p:=⟨w.heap.size+1,1,none⟩) Q2).trans R3;have xa:w.heap.size+1 < w2.heap.size:=L0a Q2 xc.size;have xj:=hid xe;have xh:Hid (L0d w w2):=A3 xc P5;clear xe xc) | (go_at_call 186;go_must (refine (HC.out _ _ _ _ xj.out).mono ?_);rintro e w3 ⟨xf,xb⟩;rw [hd] at xf;subst xf;have r0:=(xb.cell (p:=⟨w.heap.size,0,none⟩) (by first | exact xd | simpa using xd)).trans q0;have r1:=(xb.cell (p:=⟨w.heap.size,1,none⟩) (by first | exact xd | simpa using xd)).trans q1;have xq:w.heap.size < w3.heap.size:=L0a xd xb.size;have xo:=(xb.cell (p:=⟨w.heap.size+1,0,none⟩) xa).trans s0;have xn:=(xb.cell (p:=⟨w.heap.size+1,1,none⟩) xa).trans s1;have xp:=(xb.frozen (p:=⟨w.heap.size+1,0,none⟩) xa).trans y0;have xl:=(xb.frozen (p:=⟨w.heap.size+1,1,none⟩) xa).trans y1;have xg:w.heap.size+1 < w3.heap.size:=L0a xa xb.size;have xi:Hid (L0d w w3):=A3 xb (by repeat (first | exact xh.out | refine L3c ?_));clear xb))
   all_goals
    go_wp2_with fail;have u0:(w3.setCell ⟨w.heap.size+1,0,none⟩ (zC 0)).cell? ⟨w.heap.size+1,0,none⟩=some (zC 0):=by go_simp
    have u1:((w3.setCell ⟨w.heap.size+1,0,none⟩ (zC 0)).setCell ⟨w.heap.size+1,1,none⟩ (J 0)).cell? ⟨w.heap.size+1,1,none⟩=some (J 0):=by go_simp
    exact bodyPost_ret (v:=.agg #[zC 0,J 0]) (by simp [results,results303,go_sem,u0,u1]) rfl ⟨rfl,Below.setCell (Below.setCell xi.out (Nat.le_succ _) _) (Nat.le_succ _) _⟩
 ·have e:bU (A0 R.abs) (0,0)=(0,0):=if_neg (fun e=>by simp at e)
  rw[e];exact wK mb w
end
section
variable {R:McR} {f:FrR} {fs:List FrR} {g:PgR} {mb sb:Nat} {own:Own} {rest:List Val} {va:Option Addr} {w:World} {x:Val}
theorem a2Y (hq:F4 R) (h:C0 w own mb g R fs f rest [] va sb) (ho:aL R) (hal:(A0 R.abs).length<=1000) (hdn:R.dr.length<=1000) (a:Int) (h0:0<=a) (h8:a<=8) (vc:Nat) :
  Calls prog 277 #[zB mb,J a,.slice va 0 vc] w fun e w'=>DoA own mb g (X0 R.abs (fs.map FrR.abs) f.abs rest 1 (List.replicate a.toNat (0,0))) w e w':=by
 obtain⟨a,rfl⟩:=L5c h0;rw[Int.toNat_natCast];obtain⟨xc,hi,hz,xd,xe⟩:=info_parts J2;have xf:Hid (∀W:World,(Instr.makeSlice 84 (J (a:Int)) (J (a:Int))).run prog W=.ok (.slice (zA W.heap.size) a a) (W.alloc (.cells (madeCells #[zC 0,J 0] (a*2)) 92))):=by
  intro W;have hr:=run_make (P:=prog) W 84 92 xc _ underlying84 hi hz .i64 .i64 a a R5 (Int.le_refl _) (by rw [xe];omega) R5;simpa [xd,Value.cells] using hr
 have xh:=xf.out;have xa:(w.alloc (Obj.cells (madeCells #[zC 0,J 0] (a*2)) 92)).ownsRow 0 92 2 (.slice (zA w.heap.size) a a) a (A7 (List.replicate a (0,0))):=by
  have:=World.ownsRow_lit (base:=0) (e:=92) (size:=2) w (madeCells #[zC 0,J 0] (a*2)) a (L4c _) Q7 (by rw [size_madeCells]);rwa [aC] at this
 have xg:Hid (Calls prog 300 #[zB mb,.slice va 0 vc,zC 1,.slice (zA w.heap.size) a a] (w.alloc (Obj.cells (madeCells #[zC 0,J 0] (a*2)) 92)) fun e w'=>DoA own mb g (X0 R.abs (fs.map FrR.abs) f.abs rest 1 (List.replicate a (0,0))) w e w'):=by
  have:=dJ hq h (L3a (L3b _ _) (L1c _) (Obj.cells (madeCells #[zC 0,J 0] (a*2)) 92)) ho hal hdn ⟨1,.slice (zA w.heap.size) a a,List.replicate a (0,0)⟩ w.heap.size a R6 (L1c _) (by simpa using xa) 0 rfl vc;refine hid ?_;simpa using this
 clear h hi hz xd xe xf xa ho hal hdn hq;generalize X0 R.abs (fs.map FrR.abs) f.abs rest 1 (List.replicate a (0,0))=s at *
 go_enter func277,ntmps277;go_wp2_with (go_at_call 300;refine xg.out.mono ?_;rintro e w' ⟨xb,R',rfl,hm,hp,ht⟩)
 go_ret;exact⟨xb,R',rfl,hm,hp,ht⟩
theorem zI (hq:F4 R) (n:Nat) (h:C0 w own mb g R fs f rest [(1,(n:Int))] va sb) (ho:aL R) (hal:(A0 R.abs).length<=1000) (hdn:R.dr.length<=1000) (h12:n<=12) (a:Int) (vc:Nat) :
  Calls prog 278 #[zB mb,J a,.slice va 1 vc] w fun e w'=>DoA own mb g (X0 R.abs (fs.map FrR.abs) f.abs rest 2 (List.replicate n (0,0))) w e w':=by
 obtain⟨o,rfl,xj,c0,c1⟩:=h.one;simp only at c0 c1;have xi:B3 (n:Int) 0 12=true:=U7 R5 R5;obtain⟨xc,hi,hz,xd,xe⟩:=info_parts J2;have xg:Hid (∀W:World,(Instr.makeSlice 84 (J (n:Int)) (J (n:Int))).run prog W=.ok (.slice (zA W.heap.size) n n) (W.alloc (.cells (madeCells #[zC 0,J 0] (n*2)) 92))):=by
  intro W;have hr:=run_make (P:=prog) W 84 92 xc _ underlying84 hi hz .i64 .i64 n n R5 (Int.le_refl _) (by rw [xe];omega) R5;simpa [xd,Value.cells] using hr
 have xh:=xg.out;have xf:Hid (∀W nb,L0d w W->W.heap.size=nb->Calls prog 300 #[zB mb,.slice (some ⟨sb,o,none⟩) 1 vc,zC 2,.slice (zA nb) n n] (W.alloc (Obj.cells (madeCells #[zC 0,J 0] (n*2)) 92)) fun e w'=>DoA own mb g (X0 R.abs (fs.map FrR.abs) f.abs rest 2 (List.replicate n (0,0))) w e w'):=by
  rintro W _ hW rfl;have xb:(W.alloc (Obj.cells (madeCells #[zC 0,J 0] (n*2)) 92)).ownsRow 0 92 2 (.slice (zA W.heap.size) n n) n (A7 (List.replicate n (0,0))):=by
   have:=World.ownsRow_lit (base:=0) (e:=92) (size:=2) W (madeCells #[zC 0,J 0] (n*2)) n (L4c _) Q7 (by rw [size_madeCells]);rwa [aC] at this
  have:=dJ hq h (L3a hW hW.size (Obj.cells (madeCells #[zC 0,J 0] (n*2)) 92)) ho hal hdn ⟨2,.slice (zA W.heap.size) n n,List.replicate n (0,0)⟩ W.heap.size n R6 hW.size (by simpa using xb) 1 rfl vc;simpa using this
 clear h hi hz xd xe xg ho hal hdn hq;generalize X0 R.abs (fs.map FrR.abs) f.abs rest 2 (List.replicate n (0,0))=s at *
 go_enter func278,ntmps278;go_wp2_with (first | (go_at_call 206;refine (D5 _ _ _).mono ?_;rintro e w' ⟨rfl,o4,rfl⟩) | (go_at_call 116;refine (C5 _ _ _ _).mono ?_;rintro e w' ⟨rfl,rfl⟩) | (go_at_call 300;refine (xf.out _ _ ?_ ?_).mono ?_;exact P5;exact R6;rintro e w' ⟨xa,R',rfl,hm,hp,ht⟩))
 try go_region_with (first | (go_at_call 300;refine (xf.out _ _ ?_ ?_).mono ?_;exact P5;exact R6;rintro e w' ⟨xa,R',rfl,hm,hp,ht⟩))
 all_goals
  go_wp2_with fail;go_ret;exact⟨xa,R',rfl,hm,hp,ht⟩
theorem sO (h:C0 w own mb g R fs f rest [x] va sb) (hk:x.1≠1) (a:Int) (vc:Nat) :
  Calls prog 278 #[zB mb,J a,.slice va 1 vc] w fun e w'=>F7 2 w e w':=by
 obtain⟨o,rfl,xa,c0,c1⟩:=h.one;have h1:(x.1 == 1)=false:=L2c.2 hk;clear h hk;go_enter func278,ntmps278;go_wp2_with (first | (go_at_call 206;refine (D5 _ _ _).mono ?_;rintro e w' ⟨rfl,o4,rfl⟩) | (go_at_call 116;refine (C5 _ _ _ _).mono ?_;rintro e w' ⟨rfl,rfl⟩))
 go_ret;exact⟨rfl,P5⟩
theorem sP {n:Int} (h:C0 w own mb g R fs f rest [(1,n)] va sb) (hk:¬(0<=n/\n<=12)) (a:Int) (vc:Nat) :
  Calls prog 278 #[zB mb,J a,.slice va 1 vc] w fun e w'=>F7 4 w e w':=by
 obtain⟨o,rfl,xa,c0,c1⟩:=h.one;simp only at c0 c1;have xb:B3 n 0 12=false:=by
  cases e:B3 n 0 12
  ·rfl
  ·exact absurd (E5.1 e) hk
 clear h hk;go_enter func278,ntmps278;go_wp2_with (first | (go_at_call 206;refine (D5 _ _ _).mono ?_;rintro e w' ⟨rfl,o4,rfl⟩) | (go_at_call 116;refine (C5 _ _ _ _).mono ?_;rintro e w' ⟨rfl,rfl⟩))
 go_ret;exact⟨rfl,P5⟩
theorem a5z (hq:F4 R) (h:C0 w own mb g R fs f rest [x] va sb) (ho:aL R) (hal:(A0 R.abs).length<=1000) (hdn:R.dr.length<=1000) (a:Int) (vc:Nat) :
  Calls prog 278 #[zB mb,J a,.slice va 1 vc] w fun e w'=>DoA own mb g (doA g 17 a R.abs (fs.map FrR.abs) f.abs rest [x]) w e w':=by
 obtain⟨x1,x2⟩:=x;by_cases h1:x1=1
 ·subst h1
  by_cases h12:0<=x2/\x2<=12
  ·obtain ⟨n,rfl⟩:=L5c h12.1
   have e:doA g 17 a R.abs (fs.map FrR.abs) f.abs rest [(1,(n:Int))]=X0 R.abs (fs.map FrR.abs) f.abs rest 2 (List.replicate n (0,0)):=by
    simp only[doA];rw[if_neg R6,if_pos h12,Int.toNat_natCast]
   rw[e];exact zI hq n h ho hal hdn R5 a vc
  ·have e:doA g 17 a R.abs (fs.map FrR.abs) f.abs rest [(1,x2)]=D4 R.abs 4:=by
    simp only[doA];rw[if_neg R6,if_neg h12]
   rw[e];exact (sP h h12 a vc).mono fun _ _ ht=>ht.doA h.m hq
 ·have e:doA g 17 a R.abs (fs.map FrR.abs) f.abs rest [(x1,x2)]=D4 R.abs 2:=by
   simp only[doA];rw[if_pos h1]
  rw[e];exact (sO h h1 a vc).mono fun _ _ ht=>ht.doA h.m hq
end
end Go.Proofs.YtbkmgoffiigdbaaGreatDoor
