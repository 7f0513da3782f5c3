import Derived.Test.YtbkmgoffiigdbaaGreatDoorWBj
namespace Go.Proofs.YtbkmgoffiigdbaaGreatDoor
open Go.RowKit Go.Sort Go.Proofs.Tryz
set_option maxHeartbeats 4000000
set_option maxRecDepth 100000
section
variable {W:World} {f:FrR} {fs:List FrR} {g:PgR} {mb:Nat} {own:Own}
theorem a1H {R:RfR} (h:A8 W own mb g R) (hf:R.frs=fs++[f]) (hfn:f.fn < g.n) (hpc:f.pc < (g.f f.fn).n) (hgn:g.n<=1000) (hcn:(g.f f.fn).n<=1000) (hfs:fs.length<=1000) (hstn:f.stk.length<=1000)
  (h14:(g.f f.fn).op f.pc≠14) (h15:(g.f f.fn).op f.pc≠15) (h27:(g.f f.fn).op f.pc≠27) {trap:Int} (ht0:trap≠0)
  (hdo:∀U,L0d W U->Calls prog 139 #[.pointer (some ⟨mb,0,none⟩),.agg #[.int .i64 ((g.f f.fn).op f.pc),.int .i64 ((g.f f.fn).ar f.pc)],.agg #[.int .i64 (f.fn:Int),.int .i64 (f.pc:Int),f.lv,f.sv]] U fun e w'=>J6 own mb g (fun R'=>R'=R) 0 [] 0 trap U e w') :
  Calls prog 100 #[.pointer (some ⟨mb,0,none⟩)] W fun e w'=>e=.returned (.tuple #[])/\∃own',A8 w' own' mb g { R with st:=trap }/\A2 own W own' w':=by
 have xl:=h.lt _ _ h.me;obtain⟨cb,cc,xx,m4,xp,xe,ya,k0,k1,k2,k3,m0,xn,x2,yb,y0,y1⟩:=h.front hf hfn hpc;obtain⟨sa,sc,xi,xm,xo⟩:=(h.stk fs.length f (by rw [hf];simp)).vals;obtain⟨la,lc,xh,_,_⟩:=(h.loc fs.length f (by rw [hf];simp)).vals;have xz:Hid (∀k,W.heap.size<=k->own k=none):=hid fun k hk=>by
  cases e:own k with
  | none=>rfl
  | some t=>have:=h.lt k t e;omega
 have HH:=hid h;have xd:=hid hdo;rw[xh] at k2 xd;rw[xi] at k3 xd;generalize hop:(g.f f.fn).op f.pc=op at *
 generalize har:(g.f f.fn).ar f.pc=ar at *
 have xr:(op == 14)=false:=L2c.2 h14;have yc:(op == 15)=false:=L2c.2 h15;have xw:(op == 27)=false:=L2c.2 h27;have yf:(trap == 0)=false:=L2c.2 ht0;have xv:(f.fn:Int) < (g.n:Int):=(fun (_:g.n<=1000) (_:(g.f f.fn).n<=1000) (_:fs.length<=1000) (_:f.stk.length<=1000)=>by omega) hgn hcn hfs hstn;have xy:(f.pc:Int) < ((g.f f.fn).n:Int):=by omega
 have xf:mb < W.heap.size+1:=by omega
 have xg:g.b < W.heap.size+1:=by omega
 have xc:(g.f f.fn).b < W.heap.size+1:=by omega
 clear h hdo xx hf xi xh xo ya hop har xm;go_enter func100,ntmps100;go_wp2_with fail;go_region
 go_wp2_with fail;refine (xd.out _ P4).mono ?_;rintro e w1 ⟨xb,R1,pa,ye,rfl,xa,rfl,xj,xq,xs⟩;have yd:Hid (A2 own W xb w1):=hid ((A2.of_below P4).trans xj)
 have xk:=xa.lt _ _ xa.me;have n2:=xa.c2;have z2:=xa.fz 2;have xu:mb < w1.heap.size+1:=by omega
 have xt:=hid xa;clear xa xj xq xs m4 xp xe k0 k1 k2 k3 m0 xn x2 yb y0 y1 xl xf xg xc;go_wp2_with fail;obtain⟨hF,hT⟩:=xt.out.setSt trap;refine bodyPost_ret (v:=.tuple #[]) (by simp [results,results100,go_sem]) rfl ?_;exact⟨rfl,xb,hF.same (L3a (L3b _ _) (L1c _) _),yd.out.trans (hT.trans (A2.of_below (L3a (L3b _ _) (L1c _) _)))⟩
theorem A8.noFrames {w:World} {R:RfR} (h:A8 w own mb g R):A8 (w.setCell ⟨mb,4,none⟩ (.slice none 0 0)) own mb g { R with cv:=.slice none 0 0,frs:=[] }/\A2 own w own (w.setCell ⟨mb,4,none⟩ (.slice none 0 0)):=by
 obtain⟨k1,k2⟩:=h.mach 4 (.slice none 0 0);have hs:(w.setCell ⟨mb,4,none⟩ (.slice none 0 0)).heap.size=w.heap.size:=by simp
 have keep:∀t,t≠.mach->∀k,own k=some t->(w.setCell ⟨mb,4,none⟩ (.slice none 0 0)).heap[k]?=w.heap[k]?/\own k=some t:=fun t ht k e=>⟨k1 t k e ht,e⟩
 refine⟨h.edit (R':={ R with cv:=.slice none 0 0,frs:=[] }) (by rw [hs];exact L1c _) (fun k t e=>by rw [hs];exact h.lt k t e) h.me (fun k hn _ _=>⟨hn,k2 k hn⟩) (B7 _ R3) ((B7 _ R3).trans h.c1) ((B7 _ R3).trans h.c2) ((B7 _ R3).trans h.c3) (World.cell?_setCell_same _ _ _ h.c4) ((B7 _ R3).trans h.c5) (B7 _ R3) (fun j=>by go_simp;exact h.fz j)
  (h.out.kept (keep _ R5)) ⟨World.ownsRow_nil _ _ _ _,fun b hb=>by cases hb⟩ (h.things.kept (keep _ R5)) (fun i x hx=>by simp at hx) (fun i x hx=>by simp at hx) (fun i x hx=>(h.fld i x hx).kept (keep _ R5)) (fun b o e=>(h.dro b o e).2) rfl rfl rfl,⟨rfl,rfl,rfl,by simp,fun k _ hn=>k2 k hn,fun _ _=>rfl⟩⟩
theorem a1F {R:RfR} (h:A8 W own mb g R) (hf:R.frs=fs++[f]) (hfn:f.fn < g.n) (hpc:f.pc < (g.f f.fn).n) (hgn:g.n<=1000) (hcn:(g.f f.fn).n<=1000) (hfs:fs.length<=1000) (hstn:f.stk.length<=1000) (h27:(g.f f.fn).op f.pc=27) :
  Calls prog 100 #[.pointer (some ⟨mb,0,none⟩)] W fun e w'=>e=.returned (.tuple #[])/\A8 w' own mb g { R with st:=1,cv:=.slice none 0 0,frs:=[] }/\A2 own W own w':=by
 have xo:=h.lt _ _ h.me;obtain⟨cb,cc,xi,m4,xp,xh,xn,k0,k1,k2,k3,m0,xr,x2,xq,y0,y1⟩:=h.front hf hfn hpc;obtain⟨sa,sc,xb,xd,xf⟩:=(h.stk fs.length f (by rw [hf];simp)).vals;obtain⟨la,lc,xa,_,_⟩:=(h.loc fs.length f (by rw [hf];simp)).vals;have xl:Hid (∀k,W.heap.size<=k->own k=none):=hid fun k hk=>by
  cases e:own k with
  | none=>rfl
  | some t=>have:=h.lt k t e;omega
 have HH:=hid h;rw[xa] at k2;rw[xb] at k3;rw[h27] at y0;generalize har:(g.f f.fn).ar f.pc=ar at *
 have xg:(f.fn:Int) < (g.n:Int):=(fun (_:g.n<=1000) (_:(g.f f.fn).n<=1000) (_:fs.length<=1000) (_:f.stk.length<=1000)=>by omega) hgn hcn hfs hstn;have xk:(f.pc:Int) < ((g.f f.fn).n:Int):=by omega
 have xj:mb < W.heap.size+1:=by omega
 have xm:g.b < W.heap.size+1:=by omega
 have xe:(g.f f.fn).b < W.heap.size+1:=by omega
 have n2:=h.c2;have z2:=h.fz 2;have z4:=h.fz 4;have xc:mb < W.heap.size+1+1:=by omega
 clear h xi hf xb xa xf xn har xd;go_enter func100,ntmps100;go_wp2_with fail;go_region
 go_wp2_with fail;obtain⟨hF,hT⟩:=HH.out.setSt 1;obtain⟨hG,hU⟩:=hF.noFrames;refine bodyPost_ret (v:=.tuple #[]) (by simp [results,results100,go_sem]) rfl ?_;exact⟨rfl,hG.same P4,hT.trans (hU.trans (A2.of_below P4))⟩
end
section
variable {sl:List Int}
def J1 (sl:List Int) (v:Val):Val:=if v.1=2 then (2,sl.getD v.2.toNat (-1)) else v
theorem a1y {l:List Val} {i:Nat} {x:Val} (h:l[i]?=some x):(l.take (i+1)).map (J1 sl)=(l.take i).map (J1 sl)++[J1 sl x]:=by
 rw[List.take_add_one,h,List.map_append];rfl
theorem jO {W:World} {mb:Nat} (hsl:cH W mb sl) {a:Option Addr} {c:Nat} {l:List Val} (hs:O5 W W.heap.size a l) (hr:∀u,u∈l->u.1=2->0<=u.2/\u.2.toNat < sl.length) (hl:l.length<=1000) (hn:sl.length<=100000000000) :
  Calls prog 49 #[.pointer (some ⟨mb,0,none⟩),.slice a l.length c] W fun e w'=>∃v,e=.returned v/\w'.ownsRow W.heap.size 92 2 v l.length (A5 (l.map (J1 sl)))/\L0d W w':=by
 obtain⟨xf,hi,hz,xu,xm⟩:=info_parts I2;have HI:=hid hi;have HZ:=hid hz;have xr:=hid xu;have xp:=hid xm;obtain⟨xo,ta,ye,n5,hx⟩:=hsl;have M5:=hid n5;have HX:=hid hx;have HS:=hid hs;have HR:=hid hr;clear hi hz xu xm n5 hx hs hr;go_enter func49,ntmps49;go_wp2_with fail;go_loopw [5,6] (fun vl vi wr=>∃i:Nat,i<=l.length/\vi=.int .i64 i/\wr.ownsRow W.heap.size 92 2 vl i (A5 ((l.take i).map (J1 sl)))/\L0d W wr) (fun _ vi _=>l.length - (intOf vi).toNat)
 case atStart=>exact ⟨0,L4c _,rfl,World.ownsRow_nil _ _ _ _,L3b _ _⟩
 case round =>
  obtain⟨i,hi,rfl,xc,xa⟩:=hrel;have xb:=hid xc;have xd:=hid xa;have xt:W.heap.size<=wr.heap.size:=xa.size;by_cases hlt:i < l.length
  ·obtain ⟨x,hx⟩:∃x,l[i]?=some x:=⟨_,L1b hlt⟩
   obtain⟨b,rfl,hb,xi⟩:=HS.out R4;obtain⟨x0,x1⟩:=xi i x hx;have xv:=keep xa hb x0;have xq:=keep xa hb x1;have m5:=keep xa xo M5.out;have yd:b < wr.heap.size:=L0a hb xa.size;have yf:mb < wr.heap.size:=L0a xo xa.size;have xx:mb < wr.heap.size+1:=by omega
   have xl:=hid (a1y (sl:=sl) hx);have xh:(i:Int) < (l.length:Int):=by omega
   by_cases h2:x.1=2
   ·obtain ⟨j0,jl⟩:=HR.out x (L2a hx) h2
    obtain⟨j,hj⟩:=L5c j0;have xs:x.2.toNat=j:=by rw [hj];rfl
    rw[xs] at jl;obtain⟨s,hs⟩:∃s,sl[j]?=some s:=⟨_,L1b jl⟩
    obtain⟨tb,rfl,xw,xe⟩:=HX.out R4;have t2:=keep xa xw (xe j s hs);have ya:tb < wr.heap.size:=L0a xw xa.size;have xz:tb < wr.heap.size+1:=by omega
    have yc:(j:Int) < (sl.length:Int):=by omega
    have HV:Hid (J1 sl x=(2,s)):=hid (by
     unfold J1;rw[if_pos h2,xs,List.getD_eq_getElem?_getD,hs];rfl)
    rw[h2] at xv;rw[hj] at xq;clear xc xa xi hx hs xe x0 x1;go_wp2_with fail;go_region
    go_wp2_with (at_builtin;go_must (refine A9 _ rfl (.tmp 31) (.tmp 33) 84 rfl W.heap.size 92 xf _ 2 16 underlying84 HI.out HZ.out xr.out xp.out rfl R3 _ i (A5 ((l.take i).map (J1 sl))) rfl (by repeat (first | exact xb.out | refine World.ownsRow.alloc ?_ _ | refine World.ownsRow.drew ?_)) (some ⟨wr.heap.size+1,0,none⟩) 1 1 [.int .u8 2,.int .i64 s] rfl rfl (fun _=>⟨_,rfl,World.news_of_block (cs:=#[.int .u8 2,.int .i64 s]) (t:=92) (fr:=(0,0)) (B1 R5)⟩) (by simp [Value.oneCell']) Q5 R4 Q2 ?_))
    intro v1 w1 hown1 hgrow1 _;have xg:=hid (M8 (L3c (L3a (L3a xd.out xt _) Q2 _)) (((xb.out.alloc _).alloc _).drew) hgrow1);have xj:Hid (w1.ownsRow W.heap.size 92 2 v1 (i+1) (A5 ((l.take (i+1)).map (J1 sl)))):=hid (by
     rw[xl.out,HV.out,G5,List.map_take];exact hown1)
    clear hown1 hgrow1;go_wp2_with fail;go_roundw
    case rel=>exact ⟨i+1,by omega,by go_num,xj.out,xg.out⟩
    case measure=>simp [intOf];omega
   ·have HV:Hid (J1 sl x=x):=hid (by unfold J1;rw [if_neg h2])
    obtain⟨xk,xn⟩:=x;have xy:¬xk=2:=h2;have yb:(xk == 2)=false:=L2c.2 xy;simp only at xv xq;clear xc xa xi hx x0 x1 h2;go_wp2_with (at_builtin;go_must (refine A9 _ rfl (.tmp 31) (.tmp 33) 84 rfl W.heap.size 92 xf _ 2 16 underlying84 HI.out HZ.out xr.out xp.out rfl R3 _ i (A5 ((l.take i).map (J1 sl))) rfl (by repeat (first | exact xb.out | refine World.ownsRow.alloc ?_ _ | refine World.ownsRow.drew ?_)) (some ⟨wr.heap.size+1,0,none⟩) 1 1 [.int .u8 xk,.int .i64 xn] rfl rfl (fun _=>⟨_,rfl,World.news_of_block (cs:=#[.int .u8 xk,.int .i64 xn]) (t:=92) (fr:=(0,0)) (B1 R5)⟩) (by simp [Value.oneCell']) Q5 R4 Q2 ?_))
    intro v1 w1 hown1 hgrow1 _;have xg:=hid (M8 (L3a (L3a xd.out xt _) Q2 _) ((xb.out.alloc _).alloc _) hgrow1);have xj:Hid (w1.ownsRow W.heap.size 92 2 v1 (i+1) (A5 ((l.take (i+1)).map (J1 sl)))):=hid (by
     rw[xl.out,HV.out,G5,List.map_take];exact hown1)
    clear hown1 hgrow1;go_wp2_with fail;go_roundw
    case rel=>exact ⟨i+1,by omega,by go_num,xj.out,xg.out⟩
    case measure=>simp [intOf];omega
  ·obtain rfl:i=l.length:=by omega
   rw[List.take_length] at xb;have xh:¬(l.length:Int) < (l.length:Int):=by omega
   clear xc xa;go_wp2_with fail;go_ret;exact⟨_,rfl,xb.out,xd.out⟩
end
section
variable {g:PgR} {mb:Nat} {own:Own} {p:FrR} {w w':World}
theorem A8.addFrame {R:RfR} {hv:Value} (h:A8 w own mb g R) (hsize:w.heap.size<=w'.heap.size)
  (hk:∀k,k < w.heap.size->k≠mb->own k≠some .called->w'.heap[k]?=w.heap[k]?)
  (hc:∀j,j≠4->w'.cell? ⟨mb,j,none⟩=w.cell? ⟨mb,j,none⟩) (hc4:w'.cell? ⟨mb,4,none⟩=some hv) (hfz:∀j,w'.frozen? ⟨mb,j,none⟩=false)
  (hrow:w'.ownsRow 0 86 4 hv (R.frs.length+1) ((R.frs++[p]).flatMap FrR.cells)) (hon:E3 w own hv .called)
  (hfld:w.ownsRow 0 92 2 p.lv p.loc.length (A5 p.loc)) (hnb:N4 own g p.lv) (hnd:∀b o,R.da=some ⟨b,o,none⟩->p.lv.ownBlock≠some b) (hs:p.sv=.slice none 0 0/\p.stk=[]) :
  A8 w' ((own.upd p.lv.ownBlock (.loc R.frs.length)).upd hv.ownBlock .called) mb g { R with cv:=hv,frs:=R.frs++[p] }/\∀k,k < w.heap.size->p.lv.ownBlock≠some k->((own.upd p.lv.ownBlock (.loc R.frs.length)).upd hv.ownBlock .called) k=own k:=by
 have xd:=h.lt;have xc:∀k t,own k=some t->((own.upd p.lv.ownBlock (.loc R.frs.length)).upd hv.ownBlock .called) k=some t:=fun k t hkt=>by
  unfold Own.upd;by_cases e1:hv.ownBlock=some k
  ·rw [if_pos e1]
   rcases hon k e1 with e | e
   ·rw [e] at hkt;exact hkt
   ·have:=xd k t hkt;omega
  ·rw [if_neg e1,if_neg (fun e=>by have:=(hnb k e).1;rw [hkt] at this;cases this)]
   exact hkt
 have xb:∀k,own k=none->k < w.heap.size->p.lv.ownBlock≠some k->((own.upd p.lv.ownBlock (.loc R.frs.length)).upd hv.ownBlock .called) k=none:=fun k hkn hks hkp=>by
  unfold Own.upd;rw[if_neg (fun e=>by
   rcases hon k e with e | e
   ·rw [hkn] at e;cases e
   ·omega),if_neg hkp]
  exact hkn
 have keep:∀t,t≠.mach->t≠.called->∀k,own k=some t->w'.heap[k]?=w.heap[k]?/\((own.upd p.lv.ownBlock (.loc R.frs.length)).upd hv.ownBlock .called) k=some t:=fun t h1 h2 k hk' =>
  ⟨hk k (xd k t hk') (fun e=>by rw [e,h.me] at hk';exact h1 (L5b hk').symm) (by rw [hk'];exact fun e=>h2 (L5b e)),xc k t hk'⟩
 have xe:∀k,k < w.heap.size->own k=none->w'.heap[k]?=w.heap[k]?:=fun k hk1 hk2=>hk k hk1 (fun e=>by rw [e,h.me] at hk2;cases hk2) (by rw [hk2];simp)
 refine⟨h.edit (R':={ R with cv:=hv,frs:=R.frs++[p] }) hsize (fun k t hk'=>?_) (xc _ _ h.me) (fun k hn hks hor=>⟨xb k hn hks ?_,xe k hks hn⟩) (hc 0 R3) ((hc 1 R3).trans h.c1) ((hc 2 R3).trans h.c2) ((hc 3 R3).trans h.c3) hc4 ((hc 5 R3).trans h.c5) (hc 6 R3) hfz
  (h.out.kept (keep _ R5 R5)) ⟨by rw [show ({ R with cv:=hv,frs:=R.frs++[p] } : RfR).frs.length=R.frs.length+1 by simp];exact hrow,fun b hb=>by unfold Own.upd;rw [if_pos hb]⟩ (h.things.kept (keep _ R5 R5)) (fun i x hx=>?_) (fun i x hx=>?_) (fun i x hx=>(h.fld i x hx).kept (keep _ R5 R5)) (fun b o e=>xb b (h.dro b o e).2 (h.dro b o e).1 (hnd b o e)) rfl rfl rfl,fun k hks hkp=>?_⟩
 ·unfold Own.upd at hk'
  split at hk'
  ·rename_i e;exact (hrow.lt k e).2
  ·split at hk'
   ·rename_i e;exact L0a (hfld.lt k e).2 hsize
   ·exact L0a (xd k t hk') hsize
 ·rcases hor with hb | rfl | ⟨o,e⟩
  ·exact fun e=>(hnb k e).2.1 k hb rfl
  ·exact fun e=>(hnb 0 e).2.2 rfl
  ·exact hnd k o e
 ·by_cases e:i=R.frs.length
  ·subst e
   obtain rfl:p=x:=by
    have:(R.frs++[p])[R.frs.length]?=some x:=hx;simpa using this
   refine⟨A6 hfld fun b hb=>xe b (hfld.lt b hb).2 (hnb b hb).1,fun b hb=>?_⟩;unfold Own.upd;rw[if_neg (fun e1=>by
    rcases hon b e1 with e2 | e2
    ·have:=(hnb b hb).1;rw [e2] at this;cases this
    ·have:=(hfld.lt b hb).2;omega),if_pos hb]
  ·have xa:(R.frs++[p])[i]?=some x:=hx
   have hi:i < R.frs.length:=by
    have:=(L1a.1 xa).1;simp at this;omega
   rw[List.getElem?_append_left hi] at xa;exact (h.loc i x xa).kept (keep _ R5 R5)
 ·by_cases e:i=R.frs.length
  ·subst e
   obtain rfl:p=x:=by
    have:(R.frs++[p])[R.frs.length]?=some x:=hx;simpa using this
   rw[hs.1,hs.2];exact⟨World.ownsRow_nil _ _ _ _,fun b hb=>by cases hb⟩
  ·have xa:(R.frs++[p])[i]?=some x:=hx
   have hi:i < R.frs.length:=by
    have:=(L1a.1 xa).1;simp at this;omega
   rw[List.getElem?_append_left hi] at xa;exact (h.stk i x xa).kept (keep _ R5 R5)
 ·cases e:own k with
  | none=>exact xb k e hks hkp
  | some t=>exact xc k t e
theorem jG {X w4:World} {R:RfR} {v4:Value} (h:A8 w own mb g R) (hX:L0d w X) (hgrow:X.grownBy w4 R.cv.ownBlock) (hown:w4.ownsRow 0 86 4 v4 (R.frs.length+1) (R.frs.flatMap FrR.cells++p.cells)) (hat:∀b,v4.ownBlock=some b->R.cv.ownBlock=some b\/w.heap.size<=b)
  (hfld:w.ownsRow 0 92 2 p.lv p.loc.length (A5 p.loc)) (hnb:N4 own g p.lv) (hnd:∀b o,R.da=some ⟨b,o,none⟩->p.lv.ownBlock≠some b) (hs:p.sv=.slice none 0 0/\p.stk=[]) :
  w4.cell? ⟨mb,4,none⟩=some R.cv/\w4.frozen? ⟨mb,4,none⟩=false/\mb < w4.heap.size/\(∀k,k < w.heap.size->own k=none->w4.heap[k]?=w.heap[k]?) /\
   A8 (w4.setCell ⟨mb,4,none⟩ v4) ((own.upd p.lv.ownBlock (.loc R.frs.length)).upd v4.ownBlock .called) mb g { R with cv:=v4,frs:=R.frs++[p] } /\
   ∀B,B<=w.heap.size->(∀b,p.lv.ownBlock=some b->B<=b)->aH B own w ((own.upd p.lv.ownBlock (.loc R.frs.length)).upd v4.ownBlock .called) (w4.setCell ⟨mb,4,none⟩ v4):=by
 have xg:=h.lt _ _ h.me;have xd:∀b,R.cv.ownBlock=some b->own b=some .called:=h.called.2
 have xc:w.heap.size<=w4.heap.size:=L5a hX.size hgrow.size;have xa:∀k,k < w.heap.size->own k≠some .called->w4.heap[k]?=w.heap[k]?:=fun k hk ho=>by
  rw[hgrow.block k (L0a hk hX.size) (fun e=>ho (xd k e.symm)),hX.block k hk]
 have xb:=xa mb xg (by rw [h.me];simp);have xf:∀j,w4.frozen? ⟨mb,j,none⟩=false:=fun j=>by rw [L0c (w:=w) (a:=⟨mb,j,none⟩) xb];exact h.fz j
 have hc:∀j,w4.cell? ⟨mb,j,none⟩=w.cell? ⟨mb,j,none⟩:=fun j=>L0b (w:=w) (a:=⟨mb,j,none⟩) xb
 have xe:E3 w own v4 .called:=fun b hb=>by
  rcases hat b hb with e | e
  ·exact L4a (xd b e)
  ·exact L4b e
 have xh:v4.ownBlock≠some mb:=fun e=>by
  rcases xe mb e with e | e
  ·rw [h.me] at e;cases e
  ·omega
 have c4:w4.cell? ⟨mb,4,none⟩=some R.cv:=(hc 4).trans h.c4;have hp:=h.addFrame (w':=w4.setCell ⟨mb,4,none⟩ v4) (p:=p) (hv:=v4) (by simpa using xc) (fun k hk hne ho=>by rw [heap_setCell_other _ _ _ _ hne];exact xa k hk ho) (fun j hj=>(B7 _ (Ne.symm hj)).trans (hc j)) (World.cell?_setCell_same _ _ _ c4) (fun j=>by go_simp;try exact xf j)
  (by rw [List.flatMap_append,List.flatMap_singleton];exact ownsRow_setCell_other hown xh _) xe hfld hnb hnd hs
 refine⟨c4,xf 4,L0a xg xc,fun k hk hn=>xa k hk (by rw [hn];simp),hp.1,fun B hB hfB=>⟨hgrow.os.trans hX.os,hgrow.tape.trans hX.tape,hgrow.output.trans hX.output,by simpa using xc,fun k hk hn=>?_,fun k hk=>hp.2 k (L0a hk hB) fun e=>by have:=hfB k e;omega⟩⟩;rw[heap_setCell_other _ _ _ _ (fun e=>by rw [e,h.me] at hn;cases hn)];exact xa k (L0a hk hB) (by rw [hn];simp)
theorem A8.setOwn {R:RfR} {fs:List FrR} {f f':FrR} {cb cc:Nat} (h:A8 w own mb g R) (hf:R.frs=fs++[f]) (hcv:R.cv=.slice (some ⟨cb,0,none⟩) R.frs.length cc) (hlv:f'.lv=f.lv) (hloc:f'.loc=f.loc) (hsize:w.heap.size=w'.heap.size) (hk:∀k,k≠cb->w'.heap[k]?=w.heap[k]?)
  (hrow:w'.ownsRow 0 86 4 (.slice (some ⟨cb,0,none⟩) R.frs.length cc) R.frs.length ((fs++[f']).flatMap FrR.cells)) (hst:Row w own (.stk fs.length) 92 2 f'.sv f'.stk.length (A5 f'.stk)) :
  A8 w' own mb g { R with frs:=fs++[f'] }:=by
 have xe:=h.lt;have xb:own cb=some .called:=h.called.2 cb (by rw [hcv];rfl);have keep:∀t,t≠.called->∀k,own k=some t->w'.heap[k]?=w.heap[k]?/\own k=some t:=fun t ht k hk'=>⟨hk k (fun e=>by rw [e,xb] at hk';exact ht (L5b hk').symm),hk'⟩
 have xc:=(keep .mach R5 mb h.me).1;have kc:∀i,w'.cell? ⟨mb,i,none⟩=w.cell? ⟨mb,i,none⟩:=fun i=>L0b (w:=w) (a:=⟨mb,i,none⟩) xc
 have xd:(fs++[f']).length=R.frs.length:=by rw [hf];simp
 have xf:R.frs[fs.length]?=some f:=by rw [hf];simp
 have xa:∀i x,(fs++[f'])[i]?=some x->(i=fs.length/\x=f')\/(i < fs.length/\R.frs[i]?=some x):=fun i x hx=>by
  rcases Nat.lt_or_ge i fs.length with hl | hl
  ·rw [List.getElem?_append_left hl] at hx
   exact L4b ⟨hl,by rw [hf,List.getElem?_append_left hl];exact hx⟩
  ·rw [List.getElem?_append_right hl] at hx
   have:i - fs.length=0:=by
    have:=(L1a.1 hx).1;simp at this;omega
   rw[this] at hx;exact L4a ⟨by omega,by simpa using hx.symm⟩
 refine h.edit (R':={ R with frs:=fs++[f'] }) (Nat.le_of_eq hsize) (fun k t hk'=>by rw [<- hsize];exact xe k t hk') h.me (fun k hn _ _=>⟨hn,hk k fun e=>by rw [e,xb] at hn;cases hn⟩) (kc 0) ((kc 1).trans h.c1) ((kc 2).trans h.c2) ((kc 3).trans h.c3) ((kc 4).trans h.c4) ((kc 5).trans h.c5) (kc 6) (fun j=>by rw [L0c (w:=w) (a:=⟨mb,j,none⟩) xc];exact h.fz j)
  (h.out.kept (keep _ R5)) ⟨?_,fun b hb=>?_⟩ (h.things.kept (keep _ R5)) (fun i x hx=>?_) (fun i x hx=>?_) (fun i x hx=>(h.fld i x hx).kept (keep _ R5)) (fun b o e=>(h.dro b o e).2) rfl rfl rfl
 ·rw [show ({ R with frs:=fs++[f'] } : RfR).frs.length=R.frs.length from xd]
  show w'.ownsRow 0 86 4 R.cv R.frs.length _;rw[hcv];exact hrow
 ·exact h.called.2 b hb
 ·rcases xa i x hx with ⟨rfl,rfl⟩ | ⟨hi,hx⟩
  ·rw [hlv,hloc]
   exact (h.loc _ f xf).kept (keep _ R5)
  ·exact (h.loc i x hx).kept (keep _ R5)
 ·rcases xa i x hx with ⟨rfl,rfl⟩ | ⟨hi,hx⟩
  ·exact hst.kept (keep _ R5)
  ·exact (h.stk i x hx).kept (keep _ R5)
end
section
variable {R:RfR} {W w:World} {fs:List FrR} {g:PgR} {mb:Nat} {own:Own}
theorem xF (h:A8 W own mb g R) (hd:12<=R.frs.length) (hd2:R.frs.length<=1000) (k:Int) :
  Calls prog 137 #[.pointer (some ⟨mb,0,none⟩),.int .i64 k] W fun e w'=>e=.returned (.int .i64 5)/\w'=W:=by
 have xa:=h.lt _ _ h.me;obtain⟨a,c,hv,_⟩:=B4 h.called.1;have m4:=h.c4;rw[hv] at m4;have xb:(12:Int)<=(R.frs.length:Int):=by omega
 generalize R.frs.length=n at *
 clear h hv;go_enter func137,ntmps137;go_wp2_with fail;go_ret;exact⟨rfl,rfl⟩
theorem A8.cutTop {R:RfR} {f:FrR} {cb cc:Nat} (h:A8 w own mb g R) (hf:R.frs=fs++[f]) (hcv:R.cv=.slice (some ⟨cb,0,none⟩) R.frs.length cc) {rest:List Val} {sv:Value} (hst:Row w own (.stk fs.length) 92 2 sv rest.length (A5 rest)) :
  A8 (w.setCell ⟨cb,fs.length*4+3,none⟩ sv) own mb g { R with frs:=fs++[{ f with sv:=sv,stk:=rest }] }/\A2 own w own (w.setCell ⟨cb,fs.length*4+3,none⟩ sv):=by
 have hl:=h.called.1;rw[hcv] at hl;have xd:R.frs[fs.length]?=some f:=by rw [hf];simp
 have xc:own cb=some .called:=h.called.2 cb (by rw [hcv];rfl);have hr:=(World.ownsRow.stored hl (fs.length*4+3) sv).1;rw[<- G2 (c:=FrR.cells) FrR.cells_len (l:=R.frs) (i:=fs.length) (j:=3) (x:=f) (y:={ f with sv:=sv,stk:=rest }) (u:=sv) xd R4 rfl] at hr;have xb:R.frs.set fs.length { f with sv:=sv,stk:=rest }=fs++[{ f with sv:=sv,stk:=rest }]:=by rw [hf];simp
 rw[xb] at hr;have xa:∀k,k≠cb->(w.setCell ⟨cb,fs.length*4+3,none⟩ sv).heap[k]?=w.heap[k]?:=fun k hk=>heap_setCell_other _ _ _ _ hk
 exact⟨h.setOwn (f':={ f with sv:=sv,stk:=rest }) hf hcv rfl rfl R5 xa hr hst,⟨rfl,rfl,rfl,by simp,fun k _ hn=>xa k (fun e=>by rw [e,xc] at hn;cases hn),fun _ _=>rfl⟩⟩
theorem a4Z {t:Tag} {sb n sc:Nat} {rest args:List Val} (h:Row w own t 92 2 (.slice (some ⟨sb,0,none⟩) n sc) n (A5 (rest++args))) (hn:n=rest.length+args.length):Row w own t 92 2 (.slice (some ⟨sb,0,none⟩) rest.length sc) rest.length (A5 rest):=by
 have:=h.cut (m:=rest.length) R4;rwa [G5,List.take_append_of_le_length (by rw [D3];omega),List.take_of_length_le (by rw [D3];omega)] at this
theorem a3h {R:RfR} {f:FrR} (h:A8 W own mb g R) (hf:R.frs=fs++[f]) (k p l:Nat) (hk:k < g.n) (hgn:g.n<=1000) (hp:(g.f k).p=(p:Int)) (hl:(g.f k).l=(l:Int)) (hpl:p<=l) (hl8:l<=1000) (hd:fs.length+1 < 12) {rest args:List Val} (hst:f.stk=rest++args) (hap:args.length=p) (hsn:f.stk.length<=1000) {sb sc:Nat} (hsv:f.sv=.slice (some ⟨sb,0,none⟩) f.stk.length sc) (hcut:rest.length < sc) :
  Calls prog 137 #[.pointer (some ⟨mb,0,none⟩),.int .i64 (k:Int)] W fun e w'=>e=.returned (.int .i64 0)/\∃own' cv lv sv,A8 w' own' mb g { R with cv:=cv,frs:=fs++[{ f with sv:=sv,stk:=rest }]++[⟨k,0,lv,.slice none 0 0,args++List.replicate (l - args.length) (0,0),[]⟩] }/\A2 own W own' w':=by
 have yz:=h.lt _ _ h.me;obtain⟨ca,cc,xh,_,ya⟩:=Row.cells FrR.cells_len h.called;have xj:R.frs.length=fs.length+1:=by rw [hf];simp
 have xo:R.frs[fs.length]?=some f:=by rw [hf];simp
 obtain⟨cb,rfl,yv,yq,xs,xv⟩:=ya R4;have k3:=xv fs.length 3 f _ xo R3 rfl;have yw:=xs (fs.length*4+3);have m4:=h.c4;rw[xh,xj] at m4;obtain⟨g1,g2,g3⟩:=h.pg.2.1 R4;obtain⟨x0,x1,x2⟩:=g3 k hk;rw[hp] at x0;rw[hl] at x1;have m0:=h.c0;rw[g1] at m0;have xr:f.stk.length=rest.length+p:=by rw [hst,List.length_append,hap]
 rw[hsv,xr] at k3;have yy:(k:Int) < (g.n:Int):=by omega
 have zb:¬(12:Int)<=(fs.length:Int)+1:=by omega
 have xd:=h.stk fs.length f xo;obtain⟨zd,ye,e5,yk,xl⟩:=xd.vals;rw[hsv] at e5;have yu:rest.length+p<=sc:=by
  have:ye=sc:=by injection e5 with _ _ q;exact q.symm
  omega
 have xb:a4p W (some ⟨sb,rest.length*2,none⟩) args:=fun h0=>by
  obtain⟨b,e,hb,hc⟩:=xl R4;have e6:b=sb:=by
   injection e5 with q _ _
   rw[e] at q
   injection q with q
   injection q with q
   exact q.symm
  subst e6;refine⟨b,rest.length*2,rfl,hb,fun q u hu=>?_⟩;have ym:(A5 f.stk)[rest.length*2+q]?=some u:=by
   rw[hst,G5,List.getElem?_append_right (by rw [D3];omega),D3,Nat.add_sub_cancel_left];exact hu
  obtain⟨d,e7,xp⟩:=xl.src R4;rw[e] at e7
  cases e7;have:=xp _ u ym;rwa [W9] at this
 have xu:Row W own (.stk fs.length) 92 2 (.slice (some ⟨sb,0,none⟩) rest.length sc) rest.length (A5 rest):=by
  have h9:=xd;rw[hsv,hst] at h9;exact a4Z h9 (by rw [List.length_append])
 obtain⟨hM,xw⟩:=h.cutTop hf xh xu;have HM:=hid hM;have xe:Hid ((W.setCell ⟨cb,fs.length*4+3,none⟩ (.slice (some ⟨sb,0,none⟩) rest.length sc)).ownsRow 0 86 4 (.slice (some ⟨cb,0,none⟩) (fs.length+1) cc) (fs.length+1) ((fs++[{ f with sv:=.slice (some ⟨sb,0,none⟩) rest.length sc,stk:=rest }]).flatMap FrR.cells)):=hid (by
  have h9:=hM.called.1;rw[show ({ R with frs:=fs++[{ f with sv:=.slice (some ⟨sb,0,none⟩) rest.length sc,stk:=rest }] } : RfR).cv=.slice (some ⟨cb,0,none⟩) R.frs.length cc from xh,xj] at h9;simpa using h9)
 have xn:=hid xh;have xm:=hid xj;have yr:=hid xw;have HH:=hid h;obtain⟨xk,hi,hz,yb,xt⟩:=info_parts I2;have xq:Hid (∀W:World,(Instr.makeSlice 84 (.int .i64 (l:Int)) (.int .i64 (l:Int))).run prog W=.ok (.slice (some ⟨W.heap.size,0,none⟩) l l) (W.alloc (.cells (madeCells #[.int .u8 0,.int .i64 0] (l*2)) 92))):=by
  intro W;have hr:=run_make (P:=prog) W 84 92 xk _ underlying84 hi hz .i64 .i64 l l R4 (Int.le_refl _) (by rw [xt];omega) R4;simpa [yb,Value.cells] using hr
 have yt:=xq.out;subst hap;have za:=eO (w:=W) (vc:=sc - rest.length) (l:=l) hpl xb (.cells #[.int .i64 (args.length:Int),.int .i64 (l:Int),.slice (g.f k).a (g.f k).n (g.f k).c] 163);obtain⟨yo,xz,xx,xi,xg⟩:=info_parts dX;have HI:=hid xz;have HZ:=hid xx;have yc:=hid xi;have yh:=hid xg;have yx:¬rest.length=sc:=by omega
 have ys:(rest.length:Int)<=(rest.length:Int)+(args.length:Int):=by omega
 have yp:rest.length<=sc:=by omega
 have yj:mb < W.heap.size+1:=by omega
 have yn:cb < W.heap.size+1:=by omega
 have yg:mb < W.heap.size+1+1:=by omega
 have yl:cb < W.heap.size+1+1:=by omega
 have yf:rest.length+args.length<=1000:=by omega
 clear h hf hp hl hst hsv xh ya xv xs xo xj g1 g3 hM xw xd e5 yk xl xb xu hi hz yb xt xz xx xi xg xq xr hsn;go_enter func137,ntmps137;go_wp2_with fail;go_region
 go_wp2_with (at_builtin;go_must (refine A9 _ rfl (.tmp 67) (.tmp 71) 66 rfl 0 86 yo _ 4 64 underlying66 HI.out HZ.out yc.out yh.out rfl R3 (.slice (some ⟨cb,0,none⟩) (fs.length+1) cc) (fs.length+1) ((fs++[{ f with sv:=.slice (some ⟨sb,0,none⟩) rest.length sc,stk:=rest }]).flatMap FrR.cells) rfl (by repeat (first | exact xe.out | refine World.ownsRow.alloc ?_ _ | refine World.ownsRow.drew ?_)) (some ⟨W.heap.size+1+1,0,none⟩) 1 1 [.int .i64 (k:Int),.int .i64 0,.slice (some ⟨W.heap.size+1,0,none⟩) l l,.slice none 0 0] rfl rfl (fun _=>⟨_,rfl,World.news_of_block (cs:=#[.int .i64 (k:Int),.int .i64 0,.slice (some ⟨W.heap.size+1,0,none⟩) l l,.slice none 0 0]) (t:=86) (fr:=(0,0)) (B1 R5)⟩) (by intro u hu;simp at hu;rcases hu with rfl | rfl | rfl | rfl <;> rfl) Q5 R4 R5 ?_))
 intro v4 w4 hown4 hgrow4 hat4;obtain⟨va,vc,yd,_⟩:=B4 hown4;subst yd;have xa:(args++List.replicate (l - args.length) ((0,0):Val)).length=l:=by rw [List.length_append,List.length_replicate];omega
 have xf:(((W.setCell ⟨cb,fs.length*4+3,none⟩ (.slice (some ⟨sb,0,none⟩) rest.length sc)).alloc (Obj.cells #[.int .i64 (args.length:Int),.int .i64 (l:Int),.slice (g.f k).a (g.f k).n (g.f k).c] 163)).alloc (Obj.cells (A5 (args++List.replicate (l - args.length) (0,0))).toArray 92)).ownsRow 0 92 2 (.slice (some ⟨W.heap.size+1,0,none⟩) l l) (args++List.replicate (l - args.length) ((0,0):Val)).length (A5 (args++List.replicate (l - args.length) (0,0))):=by
  have h9:=World.ownsRow_lit (base:=0) (e:=92) (size:=2) ((W.setCell ⟨cb,fs.length*4+3,none⟩ (.slice (some ⟨sb,0,none⟩) rest.length sc)).alloc (Obj.cells #[.int .i64 (args.length:Int),.int .i64 (l:Int),.slice (g.f k).a (g.f k).n (g.f k).c] 163)) (A5 (args++List.replicate (l - args.length) (0,0))).toArray l (L4c _) Q5 (by simp only [List.size_toArray];rw [D3,xa])
  rw[xa];simpa using h9
 have xc:∀b,(Value.slice (some ⟨W.heap.size+1,0,none⟩) l l).ownBlock=some b->b=W.heap.size+1:=fun b hb=>by
  have:W.heap.size+1=b:=by simpa [Value.ownBlock] using hb
  exact this.symm
 have xy:N4 own g (.slice (some ⟨W.heap.size+1,0,none⟩) l l):=fun b hb=>by
  have:=xc b hb;subst this;refine⟨?_,fun q hq e=>?_,by omega⟩
  ·cases e:own (W.heap.size+1) with
   | none=>rfl
   | some t=>have:=HH.out.lt _ t e;omega
  ·have:=HH.out.pg.blk_lt hq;omega
 obtain⟨q1,q2,q3,q4,q5,q6⟩:=jG (p:=⟨k,0,(.slice (some ⟨W.heap.size+1,0,none⟩) l l),.slice none 0 0,args++List.replicate (l - args.length) (0,0),[]⟩) (HM.out.same (L3a (L3a (L3b _ _) (L1c _) _) Q2 _)) (L3c (L3a (L3b _ _) (L1c _) _)) (by rw [show ({ R with frs:=fs++[{ f with sv:=.slice (some ⟨sb,0,none⟩) rest.length sc,stk:=rest }] } : RfR).cv=.slice (some ⟨cb,0,none⟩) (fs.length+1) cc by rw [<- xm.out];exact xn.out];exact hgrow4) (by simpa [FrR.cells] using hown4) (fun b hb=>by
  rcases hat4 b hb with e | e
  ·exact L4a (by rw [show ({ R with frs:=fs++[{ f with sv:=.slice (some ⟨sb,0,none⟩) rest.length sc,stk:=rest }] } : RfR).cv=.slice (some ⟨cb,0,none⟩) (fs.length+1) cc by rw [<- xm.out];exact xn.out];exact e)
  ·exact L4b Q8) xf xy (fun b o e hb=>by
  have:=xc b hb;have:=(HH.out.dro b o e).1;omega) ⟨rfl,rfl⟩
 have zc:w4.cell? ⟨mb,4,none⟩=some (.slice (some ⟨cb,0,none⟩) (fs.length+1) cc):=by rw [q1];show some R.cv=_;rw [xn.out,xm.out]
 have HT:=hid (((yr.out.touB (L1c _)).trans (aH.of_below ((L3a (L3a (L3b _ _) (L1c _) _) Q2 _).mono R5))).trans (q6 W.heap.size Q2 (fun b hb=>by have:=xc b hb;omega))).touched;have yi:=hid q5;clear q1 q4 q5 q6 hown4 hgrow4 hat4 xf xy;go_wp2_with fail;go_ret;exact⟨rfl,_,⟨_,_,_,by have h9:=yi.out;rw [List.append_assoc] at h9;exact h9⟩,HT.out⟩
end
section
variable {W:World} {fs:List FrR} {g:PgR} {mb:Nat} {own:Own}
theorem a1d {R:RfR} {f:FrR} (h:A8 W own mb g R) (hf:R.frs=fs++[f]) (k l:Nat) (hk:k < g.n) (hgn:g.n<=1000) (hp:(g.f k).p=0) (hl:(g.f k).l=(l:Int)) (hl8:l<=1000) (hd:fs.length+1 < 12) {rest:List Val} (hst:f.stk=rest) (hsn:f.stk.length<=1000) {sb sc:Nat} (hsv:f.sv=.slice (some ⟨sb,0,none⟩) f.stk.length sc) (hcut:sc=rest.length) :
  Calls prog 137 #[.pointer (some ⟨mb,0,none⟩),.int .i64 (k:Int)] W fun e w'=>e=.returned (.int .i64 0)/\∃own' cv lv sv,A8 w' own' mb g { R with cv:=cv,frs:=fs++[{ f with sv:=sv,stk:=rest }]++[⟨k,0,lv,.slice none 0 0,List.replicate l (0,0),[]⟩] }/\A2 own W own' w':=by
 have yu:=h.lt _ _ h.me;obtain⟨ca,cc,xg,_,xx⟩:=Row.cells FrR.cells_len h.called;have xi:R.frs.length=fs.length+1:=by rw [hf];simp
 have xm:R.frs[fs.length]?=some f:=by rw [hf];simp
 obtain⟨cb,rfl,yr,yn,xp,xs⟩:=xx R4;have k3:=xs fs.length 3 f _ xm R3 rfl;have ys:=xp (fs.length*4+3);have m4:=h.c4;rw[xg,xi] at m4;obtain⟨g1,g2,g3⟩:=h.pg.2.1 R4;obtain⟨x0,x1,x2⟩:=g3 k hk;rw[hp] at x0;rw[hl] at x1;have m0:=h.c0;rw[g1] at m0;have xo:f.stk.length=rest.length:=by rw [hst]
 rw[hsv,xo] at k3;have yt:(k:Int) < (g.n:Int):=by omega
 have yw:¬(12:Int)<=(fs.length:Int)+1:=by omega
 have xc:=h.stk fs.length f xm;obtain⟨yy,yb,e5,yi,yg⟩:=xc.vals;rw[hsv] at e5;have yq:rest.length<=sc:=by
  have:yb=sc:=by injection e5 with _ _ q;exact q.symm
  omega
 have xr:Row W own (.stk fs.length) 92 2 (.slice (some ⟨sb,0,none⟩) rest.length sc) rest.length (A5 rest):=by
  have h9:=xc;rw[hsv,hst] at h9;exact h9
 obtain⟨hM,xt⟩:=h.cutTop hf xg xr;have HM:=hid hM;have xd:Hid ((W.setCell ⟨cb,fs.length*4+3,none⟩ (.slice (some ⟨sb,0,none⟩) rest.length sc)).ownsRow 0 86 4 (.slice (some ⟨cb,0,none⟩) (fs.length+1) cc) (fs.length+1) ((fs++[{ f with sv:=.slice (some ⟨sb,0,none⟩) rest.length sc,stk:=rest }]).flatMap FrR.cells)):=hid (by
  have h9:=hM.called.1;rw[show ({ R with frs:=fs++[{ f with sv:=.slice (some ⟨sb,0,none⟩) rest.length sc,stk:=rest }] } : RfR).cv=.slice (some ⟨cb,0,none⟩) R.frs.length cc from xg,xi] at h9;simpa using h9)
 have xl:=hid xg;have xk:=hid xi;have yo:=hid xt;have HH:=hid h;obtain⟨xj,hi,hz,xy,xq⟩:=info_parts I2;have xn:Hid (∀W:World,(Instr.makeSlice 84 (.int .i64 (l:Int)) (.int .i64 (l:Int))).run prog W=.ok (.slice (some ⟨W.heap.size,0,none⟩) l l) (W.alloc (.cells (madeCells #[.int .u8 0,.int .i64 0] (l*2)) 92))):=by
  intro W;have hr:=run_make (P:=prog) W 84 92 xj _ underlying84 hi hz .i64 .i64 l l R4 (Int.le_refl _) (by rw [xq];omega) R4;simpa [xy,Value.cells] using hr
 have yp:=xn.out;have yv:(Builtin.copy_ #[84,84] 3 #[.slice (some ⟨W.heap.size+1,0,none⟩) l l,.slice (some ⟨sb,0,none⟩) 0 0]).run prog ((W.alloc (.cells #[.int .i64 0,.int .i64 (l:Int),.slice (g.f k).a (g.f k).n (g.f k).c] 163)).alloc (.cells (madeCells #[.int .u8 0,.int .i64 0] (l*2)) 92))=.ok (goInt 0) ((W.alloc (.cells #[.int .i64 0,.int .i64 (l:Int),.slice (g.f k).a (g.f k).n (g.f k).c] 163)).alloc (.cells (A5 (List.replicate l (0,0))).toArray 92)):=by
  have h9:=eO (w:=W) (va:=(some ⟨sb,0,none⟩)) (vc:=0) (l:=l) (args:=[]) (L4c _) (fun h0=>by simp at h0) (.cells #[.int .i64 0,.int .i64 (l:Int),.slice (g.f k).a (g.f k).n (g.f k).c] 163);simpa using h9
 obtain⟨yl,xw,xu,xh,xf⟩:=info_parts dX;have HI:=hid xw;have HZ:=hid xu;have xz:=hid xh;have ye:=hid xf;have ym:rest.length<=sc:=by omega
 have yh:mb < W.heap.size+1:=by omega
 have yk:cb < W.heap.size+1:=by omega
 have yd:mb < W.heap.size+1+1:=by omega
 have yj:cb < W.heap.size+1+1:=by omega
 have yc:rest.length<=1000:=by omega
 clear h hf hp hl hst hsv xg xx xs xp xm xi g1 g3 hM xt xc e5 yi yg xr hi hz xy xq xw xu xh xf xn xo hsn;subst hcut;go_enter func137,ntmps137;go_wp2_with fail;go_region
 go_wp2_with (at_builtin;go_must (refine A9 _ rfl (.tmp 67) (.tmp 71) 66 rfl 0 86 yl _ 4 64 underlying66 HI.out HZ.out xz.out ye.out rfl R3 (.slice (some ⟨cb,0,none⟩) (fs.length+1) cc) (fs.length+1) ((fs++[{ f with sv:=.slice (some ⟨sb,0,none⟩) rest.length rest.length,stk:=rest }]).flatMap FrR.cells) rfl (by repeat (first | exact xd.out | refine World.ownsRow.alloc ?_ _ | refine World.ownsRow.drew ?_)) (some ⟨W.heap.size+1+1,0,none⟩) 1 1 [.int .i64 (k:Int),.int .i64 0,.slice (some ⟨W.heap.size+1,0,none⟩) l l,.slice none 0 0] rfl rfl (fun _=>⟨_,rfl,World.news_of_block (cs:=#[.int .i64 (k:Int),.int .i64 0,.slice (some ⟨W.heap.size+1,0,none⟩) l l,.slice none 0 0]) (t:=86) (fr:=(0,0)) (B1 R5)⟩) (by intro u hu;simp at hu;rcases hu with rfl | rfl | rfl | rfl <;> rfl) Q5 R4 R5 ?_))
 intro v4 w4 hown4 hgrow4 hat4;obtain⟨va,vc,ya,_⟩:=B4 hown4;subst ya;have xa:(List.replicate l ((0,0):Val)).length=l:=by simp
 have xe:(((W.setCell ⟨cb,fs.length*4+3,none⟩ (.slice (some ⟨sb,0,none⟩) rest.length rest.length)).alloc (Obj.cells #[.int .i64 0,.int .i64 (l:Int),.slice (g.f k).a (g.f k).n (g.f k).c] 163)).alloc (Obj.cells (A5 (List.replicate l (0,0))).toArray 92)).ownsRow 0 92 2 (.slice (some ⟨W.heap.size+1,0,none⟩) l l) (List.replicate l ((0,0):Val)).length (A5 (List.replicate l (0,0))):=by
  have h9:=World.ownsRow_lit (base:=0) (e:=92) (size:=2) ((W.setCell ⟨cb,fs.length*4+3,none⟩ (.slice (some ⟨sb,0,none⟩) rest.length rest.length)).alloc (Obj.cells #[.int .i64 0,.int .i64 (l:Int),.slice (g.f k).a (g.f k).n (g.f k).c] 163)) (A5 (List.replicate l (0,0))).toArray l (L4c _) Q5 (by simp only [List.size_toArray];rw [D3,xa]);rw[xa];simpa using h9
 have xb:∀b,(Value.slice (some ⟨W.heap.size+1,0,none⟩) l l).ownBlock=some b->b=W.heap.size+1:=fun b hb=>by
  have:W.heap.size+1=b:=by simpa [Value.ownBlock] using hb
  exact this.symm
 have xv:N4 own g (.slice (some ⟨W.heap.size+1,0,none⟩) l l):=fun b hb=>by
  have:=xb b hb;subst this;refine⟨?_,fun q hq e=>?_,by omega⟩
  ·cases e:own (W.heap.size+1) with
   | none=>rfl
   | some t=>have:=HH.out.lt _ t e;omega
  ·have:=HH.out.pg.blk_lt hq;omega
 obtain⟨q1,q2,q3,q4,q5,q6⟩:=jG (p:=⟨k,0,(.slice (some ⟨W.heap.size+1,0,none⟩) l l),.slice none 0 0,List.replicate l (0,0),[]⟩) (HM.out.same (L3a (L3a (L3b _ _) (L1c _) _) Q2 _)) (L3c (L3a (L3b _ _) (L1c _) _)) (by rw [show ({ R with frs:=fs++[{ f with sv:=.slice (some ⟨sb,0,none⟩) rest.length rest.length,stk:=rest }] } : RfR).cv=.slice (some ⟨cb,0,none⟩) (fs.length+1) cc by rw [<- xk.out];exact xl.out];exact hgrow4) (by simpa [FrR.cells] using hown4) (fun b hb=>by
  rcases hat4 b hb with e | e
  ·exact L4a (by rw [show ({ R with frs:=fs++[{ f with sv:=.slice (some ⟨sb,0,none⟩) rest.length rest.length,stk:=rest }] } : RfR).cv=.slice (some ⟨cb,0,none⟩) (fs.length+1) cc by rw [<- xk.out];exact xl.out];exact e)
  ·exact L4b Q8) xe xv (fun b o e hb=>by
  have:=xb b hb;have:=(HH.out.dro b o e).1;omega) ⟨rfl,rfl⟩
 have yx:w4.cell? ⟨mb,4,none⟩=some (.slice (some ⟨cb,0,none⟩) (fs.length+1) cc):=by rw [q1];show some R.cv=_;rw [xl.out,xk.out]
 have HT:=hid (((yo.out.touB (L1c _)).trans (aH.of_below ((L3a (L3a (L3b _ _) (L1c _) _) Q2 _).mono R5))).trans (q6 W.heap.size Q2 (fun b hb=>by have:=xb b hb;omega))).touched;have yf:=hid q5;clear q1 q4 q5 q6 hown4 hgrow4 hat4 xe xv;go_wp2_with fail;go_ret;exact⟨rfl,_,⟨_,_,_,by have h9:=yf.out;rw [List.append_assoc] at h9;exact h9⟩,HT.out⟩
theorem a1e {R:RfR} {f:FrR} (h:A8 W own mb g R) (hf:R.frs=fs++[f]) (k l:Nat) (hk:k < g.n) (hgn:g.n<=1000) (hp:(g.f k).p=0) (hl:(g.f k).l=(l:Int)) (hl8:l<=1000) (hd:fs.length+1 < 12) {rest:List Val} (hst:f.stk=rest) (hsn:f.stk.length<=1000) (hsv:f.sv=.slice none 0 0) (hr0:rest=[]) :
  Calls prog 137 #[.pointer (some ⟨mb,0,none⟩),.int .i64 (k:Int)] W fun e w'=>e=.returned (.int .i64 0)/\∃own' cv lv sv,A8 w' own' mb g { R with cv:=cv,frs:=fs++[{ f with sv:=sv,stk:=rest }]++[⟨k,0,lv,.slice none 0 0,List.replicate l (0,0),[]⟩] }/\A2 own W own' w':=by
 have yl:=h.lt _ _ h.me;obtain⟨ca,cc,xg,_,xu⟩:=Row.cells FrR.cells_len h.called;have xh:R.frs.length=fs.length+1:=by rw [hf];simp
 have xt:R.frs[fs.length]?=some f:=by rw [hf];simp
 obtain⟨cb,rfl,ym,yf,xv,xq⟩:=xu R4;have k3:=xq fs.length 3 f _ xt R3 rfl;have yn:=xv (fs.length*4+3);have m4:=h.c4;rw[xg,xh] at m4;obtain⟨g1,g2,g3⟩:=h.pg.2.1 R4;obtain⟨x0,x1,x2⟩:=g3 k hk;rw[hp] at x0;rw[hl] at x1;have m0:=h.c0;rw[g1] at m0;have yb:f.stk.length=rest.length:=by rw [hst]
 rw[hsv] at k3;have yp:(k:Int) < (g.n:Int):=by omega
 have yq:¬(12:Int)<=(fs.length:Int)+1:=by omega
 have xp:Row W own (.stk fs.length) 92 2 (.slice none 0 0) rest.length (A5 rest):=by
  rw[hr0];exact⟨World.ownsRow_nil _ _ _ _,fun b hb=>by cases hb⟩
 obtain⟨hM,xr⟩:=h.cutTop hf xg xp;have HM:=hid hM;have xe:Hid ((W.setCell ⟨cb,fs.length*4+3,none⟩ (.slice none 0 0)).ownsRow 0 86 4 (.slice (some ⟨cb,0,none⟩) (fs.length+1) cc) (fs.length+1) ((fs++[{ f with sv:=.slice none 0 0,stk:=rest }]).flatMap FrR.cells)):=hid (by
  have h9:=hM.called.1;rw[show ({ R with frs:=fs++[{ f with sv:=.slice none 0 0,stk:=rest }] } : RfR).cv=.slice (some ⟨cb,0,none⟩) R.frs.length cc from xg,xh] at h9;simpa using h9)
 have xj:=hid xg;have xi:=hid xh;have yg:=hid xr;have HH:=hid h;obtain⟨xk,hi,hz,xw,xl⟩:=info_parts I2;have xs:Hid (∀W:World,(Instr.makeSlice 84 (.int .i64 (l:Int)) (.int .i64 (l:Int))).run prog W=.ok (.slice (some ⟨W.heap.size,0,none⟩) l l) (W.alloc (.cells (madeCells #[.int .u8 0,.int .i64 0] (l*2)) 92))):=by
  intro W;have hr:=run_make (P:=prog) W 84 92 xk _ underlying84 hi hz .i64 .i64 l l R4 (Int.le_refl _) (by rw [xl];omega) R4;simpa [xw,Value.cells] using hr
 have yk:=xs.out;have yo:(Builtin.copy_ #[84,84] 3 #[.slice (some ⟨W.heap.size+1,0,none⟩) l l,.slice none 0 0]).run prog ((W.alloc (.cells #[.int .i64 0,.int .i64 (l:Int),.slice (g.f k).a (g.f k).n (g.f k).c] 163)).alloc (.cells (madeCells #[.int .u8 0,.int .i64 0] (l*2)) 92))=.ok (goInt 0) ((W.alloc (.cells #[.int .i64 0,.int .i64 (l:Int),.slice (g.f k).a (g.f k).n (g.f k).c] 163)).alloc (.cells (A5 (List.replicate l (0,0))).toArray 92)):=by
  have h9:=eO (w:=W) (va:=none) (vc:=0) (l:=l) (args:=[]) (L4c _) (fun h0=>by simp at h0) (.cells #[.int .i64 0,.int .i64 (l:Int),.slice (g.f k).a (g.f k).n (g.f k).c] 163);simpa using h9
 obtain⟨yi,xm,xn,xf,xd⟩:=info_parts dX;have HI:=hid xm;have HZ:=hid xn;have yc:=hid xf;have xz:=hid xd;have yh:mb < W.heap.size+1:=by omega
 have ye:cb < W.heap.size+1:=by omega
 have xy:mb < W.heap.size+1+1:=by omega
 have yj:cb < W.heap.size+1+1:=by omega
 have xx:rest.length<=1000:=by omega
 clear h hf hp hl hst hsv xg xu xq xv xt xh g1 g3 hM xr xp hr0 hi hz xw xl xm xn xf xd xs yb hsn;go_enter func137,ntmps137;go_wp2_with fail;go_region
 go_wp2_with (at_builtin;go_must (refine A9 _ rfl (.tmp 67) (.tmp 71) 66 rfl 0 86 yi _ 4 64 underlying66 HI.out HZ.out yc.out xz.out rfl R3 (.slice (some ⟨cb,0,none⟩) (fs.length+1) cc) (fs.length+1) ((fs++[{ f with sv:=.slice none 0 0,stk:=rest }]).flatMap FrR.cells) rfl (by repeat (first | exact xe.out | refine World.ownsRow.alloc ?_ _ | refine World.ownsRow.drew ?_)) (some ⟨W.heap.size+1+1,0,none⟩) 1 1 [.int .i64 (k:Int),.int .i64 0,.slice (some ⟨W.heap.size+1,0,none⟩) l l,.slice none 0 0] rfl rfl (fun _=>⟨_,rfl,World.news_of_block (cs:=#[.int .i64 (k:Int),.int .i64 0,.slice (some ⟨W.heap.size+1,0,none⟩) l l,.slice none 0 0]) (t:=86) (fr:=(0,0)) (B1 R5)⟩) (by intro u hu;simp at hu;rcases hu with rfl | rfl | rfl | rfl <;> rfl) Q5 R4 R5 ?_))
 intro v4 w4 hown4 hgrow4 hat4;obtain⟨va,vc,yd,_⟩:=B4 hown4;subst yd;have xa:(List.replicate l ((0,0):Val)).length=l:=by simp
 have xc:(((W.setCell ⟨cb,fs.length*4+3,none⟩ (.slice none 0 0)).alloc (Obj.cells #[.int .i64 0,.int .i64 (l:Int),.slice (g.f k).a (g.f k).n (g.f k).c] 163)).alloc (Obj.cells (A5 (List.replicate l (0,0))).toArray 92)).ownsRow 0 92 2 (.slice (some ⟨W.heap.size+1,0,none⟩) l l) (List.replicate l ((0,0):Val)).length (A5 (List.replicate l (0,0))):=by
  have h9:=World.ownsRow_lit (base:=0) (e:=92) (size:=2) ((W.setCell ⟨cb,fs.length*4+3,none⟩ (.slice none 0 0)).alloc (Obj.cells #[.int .i64 0,.int .i64 (l:Int),.slice (g.f k).a (g.f k).n (g.f k).c] 163)) (A5 (List.replicate l (0,0))).toArray l (L4c _) Q5 (by simp only [List.size_toArray];rw [D3,xa]);rw[xa];simpa using h9
 have xb:∀b,(Value.slice (some ⟨W.heap.size+1,0,none⟩) l l).ownBlock=some b->b=W.heap.size+1:=fun b hb=>by
  have:W.heap.size+1=b:=by simpa [Value.ownBlock] using hb
  exact this.symm
 have xo:N4 own g (.slice (some ⟨W.heap.size+1,0,none⟩) l l):=fun b hb=>by
  have:=xb b hb;subst this;refine⟨?_,fun q hq e=>?_,by omega⟩
  ·cases e:own (W.heap.size+1) with
   | none=>rfl
   | some t=>have:=HH.out.lt _ t e;omega
  ·have:=HH.out.pg.blk_lt hq;omega
 obtain⟨q1,q2,q3,q4,q5,q6⟩:=jG (p:=⟨k,0,(.slice (some ⟨W.heap.size+1,0,none⟩) l l),.slice none 0 0,List.replicate l (0,0),[]⟩) (HM.out.same (L3a (L3a (L3b _ _) (L1c _) _) Q2 _)) (L3c (L3a (L3b _ _) (L1c _) _)) (by rw [show ({ R with frs:=fs++[{ f with sv:=.slice none 0 0,stk:=rest }] } : RfR).cv=.slice (some ⟨cb,0,none⟩) (fs.length+1) cc by rw [<- xi.out];exact xj.out];exact hgrow4) (by simpa [FrR.cells] using hown4) (fun b hb=>by
  rcases hat4 b hb with e | e
  ·exact L4a (by rw [show ({ R with frs:=fs++[{ f with sv:=.slice none 0 0,stk:=rest }] } : RfR).cv=.slice (some ⟨cb,0,none⟩) (fs.length+1) cc by rw [<- xi.out];exact xj.out];exact e)
  ·exact L4b Q8) xc xo (fun b o e hb=>by
  have:=xb b hb;have:=(HH.out.dro b o e).1;omega) ⟨rfl,rfl⟩
 have yr:w4.cell? ⟨mb,4,none⟩=some (.slice (some ⟨cb,0,none⟩) (fs.length+1) cc):=by rw [q1];show some R.cv=_;rw [xj.out,xi.out]
 have HT:=hid (((yg.out.touB (L1c _)).trans (aH.of_below ((L3a (L3a (L3b _ _) (L1c _) _) Q2 _).mono R5))).trans (q6 W.heap.size Q2 (fun b hb=>by have:=xb b hb;omega))).touched;have ya:=hid q5;clear q1 q4 q5 q6 hown4 hgrow4 hat4 xc xo;go_wp2_with fail;go_ret;exact⟨rfl,_,⟨_,_,_,by have h9:=ya.out;rw [List.append_assoc] at h9;exact h9⟩,HT.out⟩
end
section
variable {cb cc mb:Nat} {f:FrR} {fs:List FrR} {g:PgR} {own:Own} {w:World}
theorem A8.cutFrames {R:RfR} (h:A8 w own mb g R) (hf:R.frs=fs++[f]) (hcv:R.cv=.slice (some ⟨cb,0,none⟩) R.frs.length cc) :
  A8 (w.setCell ⟨mb,4,none⟩ (.slice (some ⟨cb,0,none⟩) fs.length cc)) own mb g { R with cv:=.slice (some ⟨cb,0,none⟩) fs.length cc,frs:=fs }/\A2 own w own (w.setCell ⟨mb,4,none⟩ (.slice (some ⟨cb,0,none⟩) fs.length cc)):=by
 obtain⟨k1,k2⟩:=h.mach 4 (.slice (some ⟨cb,0,none⟩) fs.length cc);have hs:(w.setCell ⟨mb,4,none⟩ (.slice (some ⟨cb,0,none⟩) fs.length cc)).heap.size=w.heap.size:=by simp
 have keep:∀t,t≠.mach->∀k,own k=some t->(w.setCell ⟨mb,4,none⟩ (.slice (some ⟨cb,0,none⟩) fs.length cc)).heap[k]?=w.heap[k]?/\own k=some t:=fun t ht k e=>⟨k1 t k e ht,e⟩
 have xa:=h.called;rw[hcv] at xa;have xc:=xa.cut (m:=fs.length) (by rw [hf];simp);rw[hf,List.flatMap_append,List.take_append_of_le_length (by rw [X1 FrR.cells_len];exact L1c _),List.take_of_length_le (by rw [X1 FrR.cells_len];exact L1c _)] at xc;have xb:∀i x,fs[i]?=some x->R.frs[i]?=some x:=fun i x hx=>by
  rw[hf,List.getElem?_append_left (L1a.1 hx).1];exact hx
 refine⟨h.edit (R':={ R with cv:=.slice (some ⟨cb,0,none⟩) fs.length cc,frs:=fs }) (by rw [hs];exact L1c _) (fun k t e=>by rw [hs];exact h.lt k t e) h.me (fun k hn _ _=>⟨hn,k2 k hn⟩) (B7 _ R3) ((B7 _ R3).trans h.c1) ((B7 _ R3).trans h.c2) ((B7 _ R3).trans h.c3) (World.cell?_setCell_same _ _ _ h.c4) ((B7 _ R3).trans h.c5) (B7 _ R3) (fun j=>by go_simp;exact h.fz j)
  (h.out.kept (keep _ R5)) (xc.kept (keep _ R5)) (h.things.kept (keep _ R5)) (fun i x hx=>(h.loc i x (xb i x hx)).kept (keep _ R5)) (fun i x hx=>(h.stk i x (xb i x hx)).kept (keep _ R5)) (fun i x hx=>(h.fld i x hx).kept (keep _ R5)) (fun b o e=>(h.dro b o e).2) rfl rfl rfl,⟨rfl,rfl,rfl,by simp,fun k _ hn=>k2 k hn,fun _ _=>rfl⟩⟩
theorem A8.growTop {w':World} {R:RfR} {f':FrR} (h:A8 w own mb g R) (hf:R.frs=fs++[f]) (hcv:R.cv=.slice (some ⟨cb,0,none⟩) R.frs.length cc) (hlv:f'.lv=f.lv) (hloc:f'.loc=f.loc) (hsize:w.heap.size<=w'.heap.size) (hk:∀k,k < w.heap.size->k≠cb->own k≠some (.stk fs.length)->w'.heap[k]?=w.heap[k]?)
  (hrow:w'.ownsRow 0 86 4 (.slice (some ⟨cb,0,none⟩) R.frs.length cc) R.frs.length ((fs++[f']).flatMap FrR.cells)) (hst:w'.ownsRow 0 92 2 f'.sv f'.stk.length (A5 f'.stk)) (hon:E3 w own f'.sv (.stk fs.length)) :
  A8 w' (own.upd f'.sv.ownBlock (.stk fs.length)) mb g { R with frs:=fs++[f'] }:=by
 have xc:=h.lt;have xb:own cb=some .called:=h.called.2 cb (by rw [hcv];rfl);have xd:∀k,k < w.heap.size->(own.upd f'.sv.ownBlock (.stk fs.length)) k=own k:=fun k hk'=>Own.upd_old hon hk'
 have keep:∀t,t≠.called->t≠.stk fs.length->∀k,own k=some t->w'.heap[k]?=w.heap[k]?/\(own.upd f'.sv.ownBlock (.stk fs.length)) k=some t:=fun t ht ht2 k hk'=>⟨hk k (xc k t hk') (fun e=>by rw [e,xb] at hk';exact ht (L5b hk').symm) (by rw [hk'];exact fun e=>ht2 (L5b e)),by rw [xd k (xc k t hk')];exact hk'⟩
 have xe:=(keep .mach R5 R5 mb h.me).1;have kc:∀i,w'.cell? ⟨mb,i,none⟩=w.cell? ⟨mb,i,none⟩:=fun i=>L0b (w:=w) (a:=⟨mb,i,none⟩) xe
 have xf:(fs++[f']).length=R.frs.length:=by rw [hf];simp
 have xg:R.frs[fs.length]?=some f:=by rw [hf];simp
 have xa:∀i x,(fs++[f'])[i]?=some x->(i=fs.length/\x=f')\/(i < fs.length/\R.frs[i]?=some x):=fun i x hx=>by
  rcases Nat.lt_or_ge i fs.length with hl | hl
  ·rw [List.getElem?_append_left hl] at hx
   exact L4b ⟨hl,by rw [hf,List.getElem?_append_left hl];exact hx⟩
  ·rw [List.getElem?_append_right hl] at hx
   have:i - fs.length=0:=by
    have:=(L1a.1 hx).1;simp at this;omega
   rw[this] at hx;exact L4a ⟨by omega,by simpa using hx.symm⟩
 refine h.edit (R':={ R with frs:=fs++[f'] }) hsize (Own.upd_lt xc hsize hst) (by rw [xd _ (xc _ _ h.me)];exact h.me) (fun k hn hks _=>⟨by rw [xd k hks];exact hn,hk k hks (fun e=>by rw [e,xb] at hn;cases hn) (by rw [hn];simp)⟩) (kc 0) ((kc 1).trans h.c1) ((kc 2).trans h.c2) ((kc 3).trans h.c3) ((kc 4).trans h.c4) ((kc 5).trans h.c5) (kc 6) (fun j=>by rw [L0c (w:=w) (a:=⟨mb,j,none⟩) xe];exact h.fz j)
  (h.out.kept (keep _ R5 R5)) ⟨?_,fun b hb=>?_⟩ (h.things.kept (keep _ R5 R5)) (fun i x hx=>?_) (fun i x hx=>?_) (fun i x hx=>(h.fld i x hx).kept (keep _ R5 R5)) (fun b o e=>by rw [xd b (h.dro b o e).1];exact (h.dro b o e).2) rfl rfl rfl
 ·rw [show ({ R with frs:=fs++[f'] } : RfR).frs.length=R.frs.length from xf]
  show w'.ownsRow 0 86 4 R.cv R.frs.length _;rw[hcv];exact hrow
 ·have:=h.called.2 b hb
  rw[xd b (xc b _ this)];exact this
 ·rcases xa i x hx with ⟨rfl,rfl⟩ | ⟨hi,hx⟩
  ·rw [hlv,hloc]
   exact (h.loc _ f xg).kept (keep _ R5 R5)
  ·exact (h.loc i x hx).kept (keep _ R5 R5)
 ·rcases xa i x hx with ⟨rfl,rfl⟩ | ⟨hi,hx⟩
  ·exact ⟨hst,fun b hb=>by simp [Own.upd,hb]⟩
  ·exact (h.stk i x hx).kept (keep _ R5 Q8)
theorem a2d {X w4:World} {R:RfR} {f:FrR} {x:Val} {va:Option Addr} {vc:Nat} (h:A8 w own mb g R) (hf:R.frs=fs++[f]) (hcv:R.cv=.slice (some ⟨cb,0,none⟩) R.frs.length cc) (hX:L0d w X) (hgrow:X.grownBy w4 f.sv.ownBlock) (hown:w4.ownsRow 0 92 2 (.slice va (f.stk.length+1) vc) (f.stk.length+1) (A5 f.stk++O4 x)) (hat:∀b,(Value.slice va (f.stk.length+1) vc).ownBlock=some b->f.sv.ownBlock=some b\/w.heap.size<=b) :
  w4.cell? ⟨mb,4,none⟩=some R.cv/\mb < w4.heap.size/\cb < w4.heap.size/\w4.cell? ⟨cb,fs.length*4+3,none⟩=some f.sv/\w4.cell? ⟨cb,fs.length*4+1,none⟩=some (.int .i64 (f.pc:Int))/\(∀j,w4.frozen? ⟨cb,j,none⟩=false)/\cb≠mb /\
   A8 ((w4.setCell ⟨cb,fs.length*4+3,none⟩ (.slice va (f.stk.length+1) vc)).setCell ⟨cb,fs.length*4+1,none⟩ (.int .i64 ((f.pc:Int)+1))) (own.upd (Value.slice va (f.stk.length+1) vc).ownBlock (.stk fs.length)) mb g { R with frs:=fs++[{ f with pc:=f.pc+1,sv:=.slice va (f.stk.length+1) vc,stk:=f.stk++[x] }] } /\
   A2 own w (own.upd (Value.slice va (f.stk.length+1) vc).ownBlock (.stk fs.length)) ((w4.setCell ⟨cb,fs.length*4+3,none⟩ (.slice va (f.stk.length+1) vc)).setCell ⟨cb,fs.length*4+1,none⟩ (.int .i64 ((f.pc:Int)+1))):=by
 have xk:=h.lt _ _ h.me;have xa:own cb=some .called:=h.called.2 cb (by rw [hcv];rfl);have xc:=h.lt _ _ xa;have xo:cb≠mb:=fun e=>by rw [e,h.me] at xa;cases xa
 have xd:R.frs[fs.length]?=some f:=by rw [hf];simp
 have xj:∀b,f.sv.ownBlock=some b->own b=some (.stk fs.length):=(h.stk fs.length f xd).2
 have xe:w.heap.size<=w4.heap.size:=L5a hX.size hgrow.size;have xb:∀k,k < w.heap.size->own k≠some (.stk fs.length)->w4.heap[k]?=w.heap[k]?:=fun k hk ho=>by
  rw[hgrow.block k (L0a hk hX.size) (fun e=>ho (xj k e.symm)),hX.block k hk]
 have xf:=xb cb xc (by rw [xa];simp);have xs:=xb mb xk (by rw [h.me];simp);have xh:E3 w own (.slice va (f.stk.length+1) vc) (.stk fs.length):=fun b hb=>by
  rcases hat b hb with e | e
  ·exact L4a (xj b e)
  ·exact L4b e
 have xm:(Value.slice va (f.stk.length+1) vc).ownBlock≠some cb:=fun e=>by
  rcases xh cb e with e | e
  ·rw [xa] at e;cases e
  ·omega
 have hl:w4.ownsRow 0 86 4 (.slice (some ⟨cb,0,none⟩) R.frs.length cc) R.frs.length (R.frs.flatMap FrR.cells):=by
  have h9:=h.called.1;rw[hcv] at h9;exact A6 h9 fun b hb=>by
   obtain rfl:cb=b:=by simpa [Value.ownBlock] using hb
   exact xf
 have hr:=(World.ownsRow.stored (World.ownsRow.stored hl (fs.length*4+3) (.slice va (f.stk.length+1) vc)).1 (fs.length*4+1) (.int .i64 ((f.pc:Int)+1))).1;rw[<- G2 (c:=FrR.cells) FrR.cells_len (l:=R.frs) (i:=fs.length) (j:=3) (x:=f) (y:={ f with sv:=.slice va (f.stk.length+1) vc,stk:=f.stk++[x] }) (u:=.slice va (f.stk.length+1) vc) xd R4 rfl,
  <- G2 (c:=FrR.cells) FrR.cells_len (l:=R.frs.set fs.length { f with sv:=.slice va (f.stk.length+1) vc,stk:=f.stk++[x] }) (i:=fs.length) (j:=1) (x:={ f with sv:=.slice va (f.stk.length+1) vc,stk:=f.stk++[x] }) (y:={ f with pc:=f.pc+1,sv:=.slice va (f.stk.length+1) vc,stk:=f.stk++[x] }) (u:=.int .i64 ((f.pc:Int)+1)) (by rw [List.getElem?_set_self (by rw [hf];simp)]) R4 (by simp [FrR.cells]),List.set_set] at hr
 have xg:R.frs.set fs.length { f with pc:=f.pc+1,sv:=.slice va (f.stk.length+1) vc,stk:=f.stk++[x] }=fs++[{ f with pc:=f.pc+1,sv:=.slice va (f.stk.length+1) vc,stk:=f.stk++[x] }]:=by rw [hf];simp
 rw[xg] at hr;have hF:∀k,k≠cb->((w4.setCell ⟨cb,fs.length*4+3,none⟩ (.slice va (f.stk.length+1) vc)).setCell ⟨cb,fs.length*4+1,none⟩ (.int .i64 ((f.pc:Int)+1))).heap[k]?=w4.heap[k]?:=fun k hk=>by
  rw[heap_setCell_other _ _ _ _ hk,heap_setCell_other _ _ _ _ hk]
 obtain⟨a',xw,xn,_,xr⟩:=Row.cells FrR.cells_len h.called;have xi:0 < R.frs.length:=by rw [hf];simp
 obtain⟨b',e',xv,_,xu,xl⟩:=xr xi;have xt:b'=cb:=by
  rw[xn,e'] at hcv
  injection hcv with q _ _
  injection q with q
  injection q with q
 subst xt;have xp:w4.cell? ⟨b',fs.length*4+3,none⟩=some f.sv:=by rw [L0b (w:=w) (a:=⟨b',fs.length*4+3,none⟩) xf];exact xl fs.length 3 f _ xd R3 rfl
 have xq:w4.cell? ⟨b',fs.length*4+1,none⟩=some (.int .i64 (f.pc:Int)):=by rw [L0b (w:=w) (a:=⟨b',fs.length*4+1,none⟩) xf];exact xl fs.length 1 f _ xd R3 rfl
 refine⟨by rw [L0b (w:=w) (a:=⟨mb,4,none⟩) xs];exact h.c4,L0a xk xe,L0a xc xe,xp,xq,fun j=>by rw [L0c (w:=w) (a:=⟨b',j,none⟩) xf];exact xu j,xo,?_,?_⟩
 ·exact h.growTop (f':={ f with pc:=f.pc+1,sv:=.slice va (f.stk.length+1) vc,stk:=f.stk++[x] }) hf hcv rfl rfl (by simpa using xe) (fun k hk hne ho=>(hF k hne).trans (xb k hk ho)) hr
   (by
    have h9:=ownsRow_setCell_other (a:=⟨b',fs.length*4+1,none⟩) (ownsRow_setCell_other (a:=⟨b',fs.length*4+3,none⟩) hown xm (.slice va (f.stk.length+1) vc)) xm (.int .i64 ((f.pc:Int)+1));rw[List.length_append,G5];simpa [A5] using h9) xh
 ·refine ⟨hgrow.os.trans hX.os,hgrow.tape.trans hX.tape,hgrow.output.trans hX.output,by simpa using xe,fun k hk hn=>?_,fun k hk=>Own.upd_old xh hk⟩
  rw[hF k (fun e=>by rw [e,xa] at hn;cases hn)];exact xb k hk (by rw [hn];simp)
end
section
variable {W:World} {mb:Nat}
theorem a3r (fuel:Int) (h:fuel < 0) :
  Calls prog 61 #[.pointer (some ⟨mb,0,none⟩),.int .i64 fuel] W fun e w'=>e=.returned (.tuple #[.int .i64 0,.int .i64 5])/\w'=W:=by
 go_enter func61,ntmps61;go_wp2_with fail;go_ret2;exact⟨rfl,rfl⟩
theorem a1p (fuel:Int) (h:10000 < fuel) :
  Calls prog 61 #[.pointer (some ⟨mb,0,none⟩),.int .i64 fuel] W fun e w'=>e=.returned (.tuple #[.int .i64 0,.int .i64 5])/\w'=W:=by
 have h0:¬fuel < 0:=by omega
 go_enter func61,ntmps61;go_wp2_with fail;go_ret2;exact⟨rfl,rfl⟩
theorem a3p {own:Own} {g:PgR} {R:RfR} (h:A8 W own mb g R) (fuel:Nat) (hfu:fuel<=10000) (S:Nat->RfR->Prop) (h0:S 0 R)
  (hstep:∀i U own' R',i < fuel->S i R'->R'.st=0->A8 U own' mb g R'->Calls prog 100 #[.pointer (some ⟨mb,0,none⟩)] U fun e w'=>e=.returned (.tuple #[])/\∃own'' R'',S (i+1) R''/\A8 w' own'' mb g R''/\A2 own' U own'' w') :
  Calls prog 61 #[.pointer (some ⟨mb,0,none⟩),.int .i64 (fuel:Int)] W fun e w'=>∃n own' R',n<=fuel/\e=.returned (.tuple #[.int .i64 (n:Int),.int .i64 0])/\S n R'/\(n=fuel\/R'.st≠0)/\A8 w' own' mb g R'/\A2 own W own' w':=by
 have HS:=hid hstep;have H0:=hid h0;have HH:=hid h;have xk:¬(fuel:Int) < 0:=by omega
 have xl:¬(10000:Int) < (fuel:Int):=by omega
 clear h hstep h0;go_enter func61,ntmps61;go_wp2_with fail;go_loopw [6] (fun vi wr=>∃(i:Nat) (own':Own) (R':RfR),i<=fuel/\vi=.int .i64 i/\S i R'/\A8 wr own' mb g R'/\A2 own W own' wr) (fun vi _=>fuel - (intOf vi).toNat)
 case atStart=>exact ⟨0,own,R,L4c _,rfl,H0.out,HH.out,A2.refl _ _⟩
 case round =>
  obtain⟨i,own',R',hi,rfl,xa,hr,ht⟩:=hrel;have xj:=hr.lt _ _ hr.me;have m2:=hr.c2;have HR:=hid hr;have HT:=hid ht;have xd:=hid xa;by_cases hlt:i < fuel
  ·have xb:(i:Int) < (fuel:Int):=by omega
   by_cases hst:R'.st=0
   ·have HC:=hid (HS.out i wr own' R' hlt xa hst hr)
    rw[hst] at m2;clear hr ht xa hst;go_wp2_with (go_at_call 100;refine HC.out.mono ?_;rintro e w1 ⟨rfl,xc,R2,xg,xe,xf⟩)
    go_roundw
    case rel=>exact ⟨i+1,xc,R2,by omega,by go_num,xg,xe,HT.out.trans xf⟩
    case measure=>simp [intOf];omega
   ·have xi:(R'.st == 0)=false:=L2c.2 hst
    have xh:=hid hst;generalize hx:R'.st=st at *
    clear hr ht xa hst;go_wp2_with fail;go_ret2;exact⟨i,own',R',hi,rfl,xd.out,L4b (by rw [hx];exact xh.out),HR.out,HT.out⟩
  ·obtain rfl:i=fuel:=by omega
   have xb:¬(i:Int) < (i:Int):=by omega
   clear hr ht xa;go_wp2_with fail;go_ret2;exact⟨i,hi,rfl,own',R',xd.out,L4a rfl,HR.out,HT.out⟩
end
end Go.Proofs.YtbkmgoffiigdbaaGreatDoor
