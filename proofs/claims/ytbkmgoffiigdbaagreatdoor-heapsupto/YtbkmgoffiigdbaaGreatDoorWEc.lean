import Derived.Test.YtbkmgoffiigdbaaGreatDoorWEa
namespace Go.Proofs.YtbkmgoffiigdbaaGreatDoor
open Go.RowKit Go.Sort Go.Proofs.Tryz
set_option maxHeartbeats 2000000
set_option maxRecDepth 100000
section
variable {R:McR} {W w:World} {args rest:List Val} {f:FrR} {fs:List FrR} {g:PgR} {j mb sb:Nat} {o p:ObR} {own:Own} {va:Option Addr}
theorem a4L {l:List ObR} (h:l[j]?=some o):(l.set j p).flatMap ObR.cells=((l.flatMap ObR.cells).set (j*2) (.int .u8 p.kind)).set (j*2+1) p.fv:=by
 have h1:=G2 (c:=ObR.cells) ObR.cells_len (l:=l) (i:=j) (j:=0) (x:=o) (y:=⟨p.kind,o.fv,o.fl⟩) (u:=.int .u8 p.kind) h R4 rfl;have xa:=(L1a.1 h).1;have h2:=G2 (c:=ObR.cells) ObR.cells_len (l:=l.set j ⟨p.kind,o.fv,o.fl⟩) (i:=j) (j:=1) (x:=⟨p.kind,o.fv,o.fl⟩) (y:=p) (u:=p.fv) (List.getElem?_set_self xa) R4 rfl;rw[List.set_set] at h2;rw[h2,h1,Nat.add_zero]
def N4 (own:Own) (g:PgR) (v:Value):Prop:=∀b,v.ownBlock=some b->own b=none/\(∀k,g.blk k->k≠b)/\b≠0
theorem N4.upd {v:Value} {t:Tag} (h:N4 own g v) {k:Nat} {s:Tag} (hk:own k=some s):own.upd v.ownBlock t k=own k:=by
 unfold Own.upd;split
 ·rename_i e;rw [(h k e).1] at hk;cases hk
 ·rfl
theorem A4.layOb {R:McR} {hb hc:Nat} (h:A4 w own mb g R) (hB:L0d w W) (hj:R.obs[j]?=some o) (he:R.hv=.slice (some ⟨hb,0,none⟩) R.obs.length hc) (hnb:N4 own g p.fv) (hrow:W.ownsRow 0 92 2 p.fv p.fl.length (A5 p.fl)) :
  A4 ((W.setCell ⟨hb,j*2,none⟩ (.int .u8 p.kind)).setCell ⟨hb,j*2+1,none⟩ p.fv) (own.upd p.fv.ownBlock (.fld j)) mb g { R with obs:=R.obs.set j p } /\
   ∀k,k < w.heap.size->own k≠some .slots->((W.setCell ⟨hb,j*2,none⟩ (.int .u8 p.kind)).setCell ⟨hb,j*2+1,none⟩ p.fv).heap[k]?=w.heap[k]?:=by
 have xh:=h.lt;have xa:own hb=some .slots:=h.slots.2 hb (by rw [he];rfl);have xj:hb < w.heap.size:=xh hb _ xa;have xc:∀k,k < w.heap.size->k≠hb->((W.setCell ⟨hb,j*2,none⟩ (.int .u8 p.kind)).setCell ⟨hb,j*2+1,none⟩ p.fv).heap[k]?=w.heap[k]?:=fun k hk hn=>by
  rw[heap_setCell_other _ _ _ _ hn,heap_setCell_other _ _ _ _ hn];exact hB.block k hk
 have keep:∀t,t≠.slots->∀k,own k=some t->((W.setCell ⟨hb,j*2,none⟩ (.int .u8 p.kind)).setCell ⟨hb,j*2+1,none⟩ p.fv).heap[k]?=w.heap[k]?/\own.upd p.fv.ownBlock (.fld j) k=some t:=fun t ht k hk=>⟨xc k (xh k t hk) (fun e=>by rw [e,xa] at hk;exact ht (L5b hk).symm),(hnb.upd hk).trans hk⟩
 have xe:=(keep .mach R5 mb h.me).1;have xg:w.heap.size<=((W.setCell ⟨hb,j*2,none⟩ (.int .u8 p.kind)).setCell ⟨hb,j*2+1,none⟩ p.fv).heap.size:=by have:=hB.size;simpa using this
 have xf:p.fv.ownBlock≠some hb:=fun e=>by have:=(hnb hb e).1;rw [xa] at this;cases this
 have xb:((W.setCell ⟨hb,j*2,none⟩ (.int .u8 p.kind)).setCell ⟨hb,j*2+1,none⟩ p.fv).ownsRow 0 92 2 p.fv p.fl.length (A5 p.fl):=ownsRow_setCell_other (ownsRow_setCell_other hrow xf _) xf _;have xd:((W.setCell ⟨hb,j*2,none⟩ (.int .u8 p.kind)).setCell ⟨hb,j*2+1,none⟩ p.fv).ownsRow 0 90 2 R.hv R.obs.length ((R.obs.set j p).flatMap ObR.cells):=by
  have hs:=h.slots.1;rw[he] at hs ⊢;have xl:W.ownsRow 0 90 2 (.slice (some ⟨hb,0,none⟩) R.obs.length hc) R.obs.length (R.obs.flatMap ObR.cells):=A6 hs fun b hb'=>by
   obtain rfl:hb=b:=by simpa [Value.ownBlock] using hb'
   exact hB.block _ xj
  have:=(World.ownsRow.stored (World.ownsRow.stored xl (j*2) (.int .u8 p.kind)).1 (j*2+1) p.fv).1;rwa [<- a4L hj] at this
 have xi:∀k,k < w.heap.size->own k=none->((W.setCell ⟨hb,j*2,none⟩ (.int .u8 p.kind)).setCell ⟨hb,j*2+1,none⟩ p.fv).heap[k]?=w.heap[k]?:=fun k hk hn=>xc k hk (fun e=>by rw [e,xa] at hn;cases hn)
 have xk:=(L1a.1 hj).1;refine⟨⟨Own.upd_lt xh xg xb,?_,?_,?_,?_,?_,?_,?_,h.out.kept (keep _ R5),h.called.kept (keep _ R5),⟨by simpa using xd,fun b hb'=>?_⟩,fun i x hx=>(h.loc i x hx).kept (keep _ R5),fun i x hx=>(h.stk i x hx).kept (keep _ R5),fun i x hx=>?_,?_,?_,?_,?_,?_,h.draws.kept (keep _ R5)⟩,fun k hk hn=>xc k hk (fun e=>hn (by rw [e];exact xa))⟩
 ·exact (hnb.upd h.me).trans h.me
 ·rw [L0b (w:=w) (a:=⟨mb,0,none⟩) xe];exact h.c0
 ·rw [L0b (w:=w) (a:=⟨mb,1,none⟩) xe];exact h.c1
 ·rw [L0b (w:=w) (a:=⟨mb,2,none⟩) xe];exact h.c2
 ·rw [L0b (w:=w) (a:=⟨mb,3,none⟩) xe];exact h.c3
 ·rw [L0b (w:=w) (a:=⟨mb,4,none⟩) xe];exact h.c4
 ·intro i;rw [L0c (w:=w) (a:=⟨mb,i,none⟩) xe];exact h.fz i
 ·have:=h.slots.2 b hb'
  exact (hnb.upd this).trans this
 ·by_cases e:i=j
  ·subst e
   obtain rfl:p=x:=by
    have:(R.obs.set i p)[i]?=some x:=hx;rw[List.getElem?_set_self xk] at this;exact L5b this
   exact⟨xb,fun b hb'=>by simp [Own.upd,hb']⟩
  ·have:(R.obs.set j p)[i]?=some x:=hx
   rw[List.getElem?_set_ne (Ne.symm e)] at this;exact (h.fld i x this).kept (keep _ R5)
 ·exact h.pg.held xg fun k hb'=>xi k (h.pg.blk_lt hb') (h.ro k hb')
 ·intro k hb'
  unfold Own.upd;rw[if_neg (fun e=>(hnb k e).2.1 k hb' rfl)];exact h.ro k hb'
 ·exact h.tab.held xg (xi 0 h.tab.1 h.ro0)
 ·unfold Own.upd
  rw[if_neg (fun e=>(hnb 0 e).2.2 rfl)];exact h.ro0
 ·rw [L0b (w:=w) (a:=⟨mb,5,none⟩) xe];exact h.c5
structure kK (own:Own) (mb:Nat) (w w':World):Prop where
 os:w'.os=w.os
 tape:w'.tape=w.tape
 output:w'.output=w.output
 size:w.heap.size<=w'.heap.size
 block:∀k,k < w.heap.size->k≠mb->own k≠some .draws->own k≠some .slots->w'.heap[k]?=w.heap[k]?
def oY (own:Own) (mb:Nat) (g:PgR) (R:McR) (j:Nat) (ds:List Int) (p:ObR) (w:World) (e:Ending) (w':World):Prop :=
 ∃dv,e=.returned (.int .i64 (j:Int))/\A4 w' (own.upd p.fv.ownBlock (.fld j)) mb g { R with dv:=dv,dr:=ds,obs:=R.obs.set j p }/\kK own mb w w'
theorem zF (h:A4 w own mb g R) (j:Nat) (ds:List Int) (hj:gS R.obs R.dr j ds) (hn:R.obs.length<=1000) (hdn:R.dr.length<=1000) (p:ObR) (nb nc:Nat) (hfv:p.fv=.slice (some ⟨nb,0,none⟩) p.fl.length nc) (hnb:N4 own g p.fv) (hrow:w.ownsRow 0 92 2 p.fv p.fl.length (A5 p.fl)) :
  Calls prog 118 #[.pointer (some ⟨mb,4,none⟩),.agg #[.int .u8 p.kind,p.fv]] w fun e w'=>oY own mb g R j ds p w e w':=by
 obtain⟨o,ho,xs⟩:=hj.free;have xx:=(L1a.1 ho).1;obtain⟨hb,hc,_,_,he,xg,xu,_,_,_⟩:=h.slot ho;have xv:mb < w.heap.size:=h.lt mb _ h.me;have xm:Hid (∀U,L0d w U->Calls prog 166 #[.pointer (some ⟨mb,4,none⟩)] U fun e w'=>fO own mb g R j ds U e w'):=fun U hU=>uW (h.same hU.size fun k hk=>hU.block k hk) j ds hj hn hdn
 have xi:Hid (∀U w2 dv,L0d w U->A4 w2 own mb g { R with dv:=dv,dr:=ds }->A2 own U own w2->(∀k,k < U.heap.size->k≠mb->own k≠some .draws->w2.heap[k]?=U.heap[k]?) ->
   ((w2.cell? ⟨mb,4,none⟩=some (.slice (some ⟨hb,0,none⟩) R.obs.length hc)/\w2.frozen? ⟨hb,j*2,none⟩=false/\w2.frozen? ⟨hb,j*2+1,none⟩=false/\w2.cell? ⟨hb,j*2,none⟩=some (.int .u8 o.kind)/\(∃v,w2.cell? ⟨hb,j*2+1,none⟩=some v))/\mb < w2.heap.size/\hb < w2.heap.size) /\
   ∀V,L0d w2 V->oY own mb g R j ds p w (.returned (.int .i64 (j:Int))) ((V.setCell ⟨hb,j*2,none⟩ (.int .u8 p.kind)).setCell ⟨hb,j*2+1,none⟩ p.fv)):=by
  intro U w2 dv hU xb xa xc;have c4:=xb.c4;obtain⟨xf,hc',fa,fc,xp,_,xq,_,k0,k1⟩:=xb.slot (R:={ R with dv:=dv,dr:=ds }) (j:=j) (o:=o) ho;have xe:R.hv=.slice (some ⟨xf,0,none⟩) R.obs.length hc':=xp;rw[he] at xe
  cases xe;have xj:w2.ownsRow 0 90 2 R.hv R.obs.length (R.obs.flatMap ObR.cells):=xb.slots.1;rw[he] at xj;have xl:w2.cell? ⟨mb,4,none⟩=some R.hv:=c4;rw[he] at xl;refine⟨⟨⟨xl,xj.frozenAt _,xj.frozenAt _,k0,_,k1⟩,xb.lt mb _ xb.me,xq⟩,fun V hV=>?_⟩;have xd:V.ownsRow 0 92 2 p.fv p.fl.length (A5 p.fl):=A6 hrow fun b xf=>by
   have xk:=(hrow.lt b xf).2;have h1:=(hnb b xf).1;rw[hV.block b (L0a (L0a xk hU.size) xa.size),xc b (L0a xk hU.size) (fun e=>by rw [e,h.me] at h1;cases h1) (by rw [h1];simp),hU.block b xk]
  obtain⟨xo,xr⟩:=xb.layOb (R:={ R with dv:=dv,dr:=ds }) (p:=p) hV ho he hnb xd;refine⟨dv,rfl,xo,⟨hV.os.trans (xa.os.trans hU.os),hV.tape.trans (xa.tape.trans hU.tape),hV.output.trans (xa.output.trans hU.output),?_,fun k hk h1 h2 h3=>?_⟩⟩
  ·have:=hU.size;have:=xa.size;have:=hV.size
   simp;omega
  ·rw [xr k (L0a (L0a hk hU.size) xa.size) h3,xc k (L0a hk hU.size) h1 h2,hU.block k hk]
 have xw:=hid hfv;rw[hfv] at xi ⊢;have hN:own w.heap.size≠some .draws:=by rw [h.new (L1c _)];simp
 have xn:w.heap.size≠mb:=by omega
 clear h hj ho xs he xg hrow hfv hnb;go_enter func118,ntmps118;go_wp2_with (go_at_call 166;refine (xm.out _ ?_).mono ?_;exact P5;rintro e w2 ⟨dv,rfl,xb,xa,xc⟩;obtain ⟨⟨⟨c4,z0,z1,k0,v1,k1⟩,hmb2,hhb2⟩,hfin⟩:=xi.out _ w2 dv P5 xb xa xc;have xh:=xc w.heap.size R5 xn hN;have b0:=(L0b (a:=⟨w.heap.size,0,none⟩) xh).trans (show _=some (Value.int .u8 p.kind) by go_simp);have b1:=(L0b (a:=⟨w.heap.size,1,none⟩) xh).trans (show _=some (Value.slice (some ⟨nb,0,none⟩) p.fl.length nc) by go_simp);have xt:w.heap.size < w2.heap.size:=L0a R5 xa.size;have HF:=hid hfin;clear hfin xb xa xc xh)
 go_region
 all_goals
  have HQ:=hid (HF.out w2.drew (L3c (L3b _ _)));clear HF xi xm;go_wp2_with fail;go_ret;exact HQ.out
theorem fI (n:Int) (w:World):Calls prog 214 #[.int .i64 n] w fun e w'=>e=.returned (.agg #[.int .u8 2,.int .i64 n])/\∃o,w'=w.alloc o:=by
 go_enter func214,ntmps214;go_wp2
 exact bodyPost_ret (v:=.agg #[.int .u8 2,.int .i64 n]) (by simp [results,results214,go_sem]) rfl ⟨rfl,_,rfl⟩
def a6H (R:McR) (fs:List FrR) (f:FrR) (rest:List Val) (j:Nat) (ds:List Int) (p:ObR) (R':McR):Prop:=∃sv' dv',R'={ R with dv:=dv',dr:=ds,obs:=R.obs.set j p,frs:=fs++[{ f with pc:=f.pc+1,sv:=sv',stk:=rest++[(2,(j:Int))] }] }
theorem C0.laid {own':Own} {R1:McR} {w':World} (h:C0 w own mb g R fs f rest args va sb) (hm:A4 w' own' mb g R1) (hf:R1.frs=R.frs) (ho:∀k i,own k=some (.stk i)->own' k=own k) (hk:∀k i,own k=some (.stk i)->w'.heap[k]?=w.heap[k]?):C0 w' own' mb g R1 fs f rest args va sb :=
 ⟨hm,hf.trans h.hf,h.hst,fun h0=>by
  obtain⟨q1,q2,q3⟩:=h.hva h0;have e:=hk sb _ q2;refine⟨q1,(ho sb _ q2).trans q2,fun i x hx=>?_⟩;rw[L0b (w:=w) (a:=⟨sb,_,none⟩) e,L0b (w:=w) (a:=⟨sb,_,none⟩) e];exact q3 i x hx,h.hn,h.hs,h.hpc⟩
theorem A4.nobody (h:A4 w own mb g R) {v:Value} {nb:Nat} (hv:v.ownBlock=some nb) (hnew:w.heap.size<=nb):N4 own g v:=fun b hb=>by
 rw[hv] at hb
 cases hb;exact⟨h.new hnew,fun k hk=>by have:=h.pg.blk_lt hk;omega,by have:=h.tab.1;omega⟩
theorem C0.lay {R:McR} (h:C0 w own mb g R fs f rest args va sb) (hB:L0d w W) {j:Nat} {ds:List Int} {p:ObR} {e:Ending} {w':World} (hnew:∀b,p.fv.ownBlock=some b->w.heap.size<=b) (hl:oY own mb g R j ds p W e w') :
  ∃dv,e=.returned (.int .i64 (j:Int))/\C0 w' (own.upd p.fv.ownBlock (.fld j)) mb g { R with dv:=dv,dr:=ds,obs:=R.obs.set j p } fs f rest args va sb/\A2 own w (own.upd p.fv.ownBlock (.fld j)) w':=by
 obtain⟨dv,he,hm,hb⟩:=hl;have xa:∀k,k < w.heap.size->own.upd p.fv.ownBlock (.fld j) k=own k:=fun k hk=>by
  unfold Own.upd;split
  ·rename_i e;have:=hnew k e;omega
  ·rfl
 have xb:∀k,k < w.heap.size->k≠mb->own k≠some .draws->own k≠some .slots->w'.heap[k]?=w.heap[k]?:=fun k hk h1 h2 h3=>(hb.block k (L0a hk hB.size) h1 h2 h3).trans (hB.block k hk)
 refine⟨dv,he,h.laid hm rfl (fun k i hk=>xa k (h.m.lt k _ hk)) (fun k i hk=>xb k (h.m.lt k _ hk) (fun e=>by rw [e,h.m.me] at hk;cases hk) (by rw [hk];simp) (by rw [hk];simp)),⟨hb.os.trans hB.os,hb.tape.trans hB.tape,hb.output.trans hB.output,L5a hB.size hb.size,fun k hk hn=>xb k hk (fun e=>by rw [e,h.m.me] at hn;cases hn) (by rw [hn];simp) (by rw [hn];simp),xa⟩⟩
theorem pC (h:C0 w own mb g R fs f rest args va sb) (hB:L0d w W) (j:Nat) (ds:List Int) (hj:gS R.obs R.dr j ds) (hn:R.obs.length<=1000) (hdn:R.dr.length<=1000) (p:ObR) (nb nc:Nat) (hfv:p.fv=.slice (some ⟨nb,0,none⟩) p.fl.length nc) (hnew:w.heap.size<=nb) (hrow:W.ownsRow 0 92 2 p.fv p.fl.length (A5 p.fl)) (k:Nat) (hk:args.length=k) (vc:Nat) :
  Calls prog 300 #[.pointer (some ⟨mb,0,none⟩),.slice va k vc,.int .u8 p.kind,.slice (some ⟨nb,0,none⟩) p.fl.length nc] W fun e w'=>X7 own mb g (a6H R fs f rest j ds p) 0 w e w':=by
 obtain⟨o,ho,xi⟩:=hj.free;have xc:0 < R.obs.length:=by have:=(L1a.1 ho).1;omega
 have xj:(taken R.obs == R.obs.length)=false:=beq_eq_false_iff_ne.2 (nX ho xi);have xo:Hid (∀U,L0d W U->Calls prog 305 #[.pointer (some ⟨mb,4,none⟩)] U fun e w'=>e=.returned (.bool false)/\L0d U w'):=by
  intro U hU;have xa:=A7 hU hB;have:=lT (h.m.same xa.size fun k hk=>xa.block k hk) xc hn;rw[xj] at this;exact this
 have xb:p.fv.ownBlock=some nb:=by rw [hfv];rfl
 have xd:Hid (∀U,L0d W U->Calls prog 118 #[.pointer (some ⟨mb,4,none⟩),.agg #[.int .u8 p.kind,.slice (some ⟨nb,0,none⟩) p.fl.length nc]] U fun e w'=>∃dv,e=.returned (.int .i64 (j:Int))/\C0 w' (own.upd p.fv.ownBlock (.fld j)) mb g { R with dv:=dv,dr:=ds,obs:=R.obs.set j p } fs f rest args va sb/\A2 own w (own.upd p.fv.ownBlock (.fld j)) w'):=by
  intro U hU;have xa:=A7 hU hB;have xp:=h.m.same xa.size fun k hk=>xa.block k hk
  have:=zF xp j ds hj hn hdn p nb nc hfv (h.m.nobody xb hnew) (A6 hrow fun b hb=>hU.block b (hrow.lt b hb).2);rw[hfv] at this;rw[hfv] at xb ⊢;exact this.mono fun e w' hl=>by
   have:=h.lay xa (fun b hb=>by rw [hfv,xb] at hb;cases hb;exact hnew) hl;rw[hfv] at this;exact this
 clear h hB hj hfv hrow xj ho xi xb;go_enter func300,ntmps300;go_wp2_with (first | (go_at_call 305;refine (xo.out _ ?_).mono ?_;exact (by repeat (first | exact L3b _ _ | exact xf.out));rintro e w2 ⟨rfl,xk⟩;have xf:Hid (L0d W w2):=A7 xk (by repeat (first | exact L3b _ _ | exact xf.out));clear xk))
 refine (xd.out _ xf.out).mono ?_;rintro e w3 ⟨dv,rfl,xl,xh⟩;have xg:=hid xl;have xm:=hid xh;clear xl xh;go_wp2_with (first | (go_at_call 214;refine (fI _ _).mono ?_;rintro e w' ⟨rfl,o4,rfl⟩) | (go_at_call 290;refine (xg.out.answer P5 vc _ [(2,(j:Int))] (H3 xg.out.m Q4 (B1 R5)) R5 k hk).mono ?_;rintro e w' ⟨xe,xn,rfl,hm,ht⟩))
 go_ret;exact⟨xe,_,rfl,hm,⟨xn,dv,rfl⟩,xm.out.trans ht⟩
end
theorem a5t {own:Own} {mb:Nat} {g:PgR} {R:McR} {fs:List FrR} {f:FrR} {w:World} (h:A4 w own mb g R) (hf:R.frs=fs++[f]) (k:Nat) (a:Int) (rest args:List Val) (hst:f.stk=rest++args) (hx:a4r g f k a args.length) (hn:fs.length<=1000) (hs:f.stk.length<=1000) (hpc:f.pc<=1000) (hgn:g.n<=1000) (hcn:(g.f f.fn).n<=1000)
  (P:McR->Prop) (st:Int) (HD:∀W va vc sb,C0 W own mb g R fs f rest args va sb->Calls Tryz.prog (doT k) #[.pointer (some ⟨mb,0,none⟩),.int .i64 a,.slice va args.length vc] W fun e w'=>X7 own mb g P st W e w') (S:McR->Prop) (himp:∀Q,P Q->S { Q with st:=st }) :
  Calls Tryz.prog 136 #[.pointer (some ⟨mb,0,none⟩)] w fun e w'=>gV own mb g S w e w':=by
 refine (a3G h hf k a rest args hst hx hn hs hpc hgn hcn P st (fun W va vc sb _ hA=>HD W va vc sb hA)).mono ?_;rintro e w' ⟨xa,R',he,hm,⟨Q,hQ,rfl⟩,ht⟩;exact⟨xa,_,he,hm,himp Q hQ,ht⟩
structure FrA where
 fn:Nat
 pc:Nat
 loc:List Val
 stk:List Val
structure McA where
 st:Int
 out:List Int
 frs:List FrA
 obs:List (Int × List Val)
 dr:List Int
def FrR.abs (f:FrR):FrA:=⟨f.fn,f.pc,f.loc,f.stk⟩
def ObR.abs (o:ObR):Int × List Val:=(o.kind,o.fl)
def McR.abs (R:McR):McA:=⟨R.st,R.out,R.frs.map FrR.abs,R.obs.map ObR.abs,R.dr⟩
def E6 (R:McR):Prop:=R.out=[]->R.ov=.slice none 0 0
def goA (s:McA) (fs:List FrA) (f:FrA) (pc:Nat) (l:List Val):McA:=⟨0,s.out,fs++[⟨f.fn,pc,f.loc,l⟩],s.obs,s.dr⟩
theorem a4F (R:McR) (fs:List FrR) (f:FrR) (pc:Nat) (l:List Val) (sv:Value) :
  McR.abs { ({ R with frs:=fs++[{ f with pc:=pc,sv:=sv,stk:=l }] } : McR) with st:=0 }=goA R.abs (fs.map FrR.abs) f.abs pc l:=by
 simp[McR.abs,goA,FrR.abs]
def freeA:List (Int × List Val)->Nat->Option Nat
 | [],_=>none
 | o::l,n=>if o.1=0 then some n else freeA l (n+1)
theorem lR:∀(l:List ObR) (n j:Nat),freeA (l.map ObR.abs) n=some j->n<=j/\V2 l (j - n)
 | [],n,j,h=>by cases h
 | o::l,n,j,h=>by
  simp only[List.map_cons,freeA] at h;by_cases h0:o.abs.1=0
  ·rw [if_pos h0] at h
   cases h;refine⟨L1c _,⟨o,by simp,h0⟩,fun i x hi _=>by omega⟩
  ·rw [if_neg h0] at h
   obtain⟨h1,⟨x,hx,hk⟩,h3⟩:=lR l (n+1) j h;have e:j - n=(j - (n+1))+1:=by omega
   rw[e];refine⟨by omega,⟨x,by simpa using hx,hk⟩,fun i y hi hy=>?_⟩
   cases i with
   | zero=>simp at hy;subst hy;exact h0
   | succ i=>exact h3 i y R4 (by simpa using hy)
def cD (obs:List (Int × List Val)) (dr:List Int):Option (Nat × List Int) :=
 match dr with
 | []=>(freeA obs 0).map fun j=>(j,[])
 | d::ds=>match obs[(d % (obs.length:Int)).toNat]? with
  | none=>none
  | some o=>if o.1=0 then some ((d % (obs.length:Int)).toNat,ds) else (freeA obs 0).map fun j=>(j,ds)
theorem mC {l:List ObR} {dr ds:List Int} {j:Nat} (h:cD (l.map ObR.abs) dr=some (j,ds)):gS l dr j ds:=by
 have xa:∀i,freeA (l.map ObR.abs) 0=some i->V2 l i:=fun i hi=>by have:=(lR l 0 i hi).2;simpa using this
 cases dr with
 | nil =>
  obtain⟨i,hi,e⟩:=Option.map_eq_some_iff.1 h
  cases e;exact⟨rfl,xa _ hi⟩
 | cons d r =>
  simp only[cD,List.length_map,List.getElem?_map] at h
  cases ho:l[(d % (l.length:Int)).toNat]? with
  | none=>rw [ho] at h;cases h
  | some o =>
   rw[ho] at h;simp only[Option.map_some] at h;split at h
   ·rename_i hk
    cases h;exact⟨rfl,o,ho,L4a ⟨hk,rfl⟩⟩
   ·rename_i hk
    obtain⟨i,hi,e⟩:=Option.map_eq_some_iff.1 h
    cases e;exact⟨rfl,o,ho,L4b ⟨hk,xa _ hi⟩⟩
abbrev Ob:=Int × List Val
def C4 (l:List FrA):List Val:=l.flatMap fun f=>f.loc++f.stk
def C1:List Nat->List Val->List Nat
 | met,[]=>met
 | met,v::l=>C1 (if v.1=2/\v.2.toNat∉met then met++[v.2.toNat] else met) l
def G7 (obs:List Ob):Nat->Nat->List Nat->List Nat
 | 0,_,met=>met
 | n+1,i,met=>match met[i]? with
  | none=>met
  | some j=>match obs[j]? with
   | none=>met
   | some o=>G7 obs n (i+1) (if o.1=3 then met else C1 met o.2)
def K6 (obs:List Ob) (l:List Val):List Nat:=G7 obs obs.length 0 (C1 [] l)
def A1 (s:McA):List Nat:=K6 s.obs (C4 s.frs)
theorem iK (met:List Nat) (l k:List Val):C1 met (l++k)=C1 (C1 met l) k:=by
 induction l generalizing met with
 | nil=>rfl
 | cons v l ih=>simp only [List.cons_append,C1];exact ih _
theorem V8 (l:List Val):∀(met:List Nat) (j:Nat),j∈C1 met l↔j∈met\/∃v,v∈l/\v.1=2/\v.2.toNat=j:=by
 induction l with
 | nil=>intro met j;simp [C1]
 | cons v l ih =>
  intro met j;rw[C1,ih];by_cases h:v.1=2/\v.2.toNat∉met
  ·rw [if_pos h,List.mem_append,List.mem_singleton]
   constructor
   ·rintro ((h1 | h1) | ⟨u,h1,h2⟩)
    ·exact L4a h1
    ·exact L4b ⟨v,by simp,h.1,h1.symm⟩
    ·exact L4b ⟨u,by simp [h1],h2⟩
   ·rintro (h1 | ⟨u,h1,h2,h3⟩)
    ·exact L4a (L4a h1)
    ·rcases List.mem_cons.1 h1 with rfl | h1
     ·exact L4a (L4b h3.symm)
     ·exact L4b ⟨u,h1,h2,h3⟩
  ·rw [if_neg h]
   constructor
   ·rintro (h1 | ⟨u,h1,h2⟩)
    ·exact L4a h1
    ·exact L4b ⟨u,by simp [h1],h2⟩
   ·rintro (h1 | ⟨u,h1,h2,h3⟩)
    ·exact L4a h1
    ·rcases List.mem_cons.1 h1 with rfl | h1
     ·refine L4a ?_
      rw[<- h3];exact Decidable.byContradiction fun hc=>h ⟨h2,hc⟩
     ·exact L4b ⟨u,h1,h2,h3⟩
theorem iL (l:List Val):∀met:List Nat,met <+: C1 met l:=by
 induction l with
 | nil=>intro met;exact List.prefix_refl _
 | cons v l ih =>
  intro met;rw[C1];split
  ·exact (List.prefix_append _ _).trans (ih _)
  ·exact ih _
theorem Q0 (l:List Val):∀met:List Nat,met.Nodup->(C1 met l).Nodup:=by
 induction l with
 | nil=>intro met h;exact h
 | cons v l ih =>
  intro met h;rw[C1];split
  ·rename_i hv
   refine ih _ ?_;rw[List.nodup_append];refine⟨h,by simp,fun a ha b hb=>?_⟩;rw[List.mem_singleton] at hb;rintro rfl;exact hv.2 (hb▸ha)
  ·exact ih _ h
theorem bA {n:Nat} {l:List Val} {met:List Nat} (hm:∀j,j∈met->j < n) (hl:∀v,v∈l->v.1=2->v.2.toNat < n):∀j,j∈C1 met l->j < n:=by
 intro j hj;rcases (V8 l met j).1 hj with h | ⟨v,h1,h2,rfl⟩
 ·exact hm j h
 ·exact hl v h1 h2
theorem L1:∀{n:Nat} {l:List Nat},l.Nodup->(∀j,j∈l->j < n)->l.length<=n
 | 0,l,_,hl=>by
  cases l with
  | nil=>simp
  | cons a l=>have:=hl a R5;omega
 | n+1,l,h,hl=>by
  by_cases hn:n∈l
  ·have:=L1 (n:=n) (h.erase n) fun j hj=>by
    have h1:=hl j (List.mem_of_mem_erase hj);have h2:j≠n:=fun e=>by subst e;exact h.not_mem_erase hj
    omega
   rw[List.length_erase_of_mem hn] at this;omega
  ·have:=L1 (n:=n) h fun j hj=>by
    have h1:=hl j hj;have h2:j≠n:=fun e=>hn (e▸hj)
    omega
   omega
def fU (obs:List Ob):Prop:=∀o,o∈obs->∀v,v∈o.2->v.1=2->v.2.toNat < obs.length
def jC (obs:List Ob) (met:List Nat) (j:Nat):Prop:=∀o,obs[j]?=some o->o.1≠3->∀v,v∈o.2->v.1=2->v.2.toNat∈met
theorem jC.mono {obs:List Ob} {met met':List Nat} {j:Nat} (h:jC obs met j) (hs:∀k,k∈met->k∈met'):jC obs met' j:=fun o ho h3 v hv h2=>hs _ (h o ho h3 v hv h2)
structure cI (obs:List Ob) (i:Nat) (met:List Nat):Prop where
 nodup:met.Nodup
 lt:∀j,j∈met->j < obs.length
 shut:∀k j,k < i->met[k]?=some j->jC obs met j
theorem cI.next {obs:List Ob} (hw:fU obs) {i j:Nat} {met:List Nat} {o:Ob} (h:cI obs i met) (hi:met[i]?=some j) (ho:obs[j]?=some o):cI obs (i+1) (if o.1=3 then met else C1 met o.2):=by
 have xb:o∈obs:=L2a ho;by_cases h3:o.1=3
 ·rw [if_pos h3]
  refine⟨h.nodup,h.lt,fun k j' hk hj'=>?_⟩;by_cases e:k=i
  ·subst e
   rw[hi] at hj'
   cases hj';intro o' xb hne;rw[ho] at xb
   cases xb;exact absurd h3 hne
  ·exact h.shut k j' R4 hj'
 ·rw [if_neg h3]
  have xc:∀k,k∈met->k∈C1 met o.2:=fun k hk=>(V8 _ _ _).2 (L4a hk)
  refine⟨Q0 _ _ h.nodup,bA h.lt (hw o xb),fun k j' hk hj'=>?_⟩;have xd:k < met.length:=by have:=(L1a.1 hi).1;omega
  have xa:met[k]?=some j':=by
   obtain⟨t,ht⟩:=iL o.2 met;rw[<- ht,List.getElem?_append_left xd] at hj';exact hj'
  by_cases e:k=i
  ·subst e
   rw[hi] at xa
   cases xa;intro o' xb _ v hv h2;rw[ho] at xb
   cases xb;exact (V8 _ _ _).2 (L4b ⟨v,hv,h2,rfl⟩)
  ·exact (h.shut k j' R4 xa).mono xc
theorem iZ {obs:List Ob} (hw:fU obs):∀(n i:Nat) (met:List Nat),obs.length<=n+i->cI obs i met->∃i',cI obs i' (G7 obs n i met)/\(G7 obs n i met).length<=i'/\∀j,j∈met->j∈G7 obs n i met
 | 0,i,met,hn,h=>⟨i,h,by have:=L1 h.nodup h.lt;simp only [G7];omega,fun _ hj=>hj⟩
 | n+1,i,met,hn,h=>by
  rw[G7]
  cases hi:met[i]? with
  | none=>exact ⟨i,h,by have:=List.getElem?_eq_none_iff.1 hi;exact this,fun _ hj=>hj⟩
  | some j =>
   obtain⟨o,ho⟩:∃o,obs[j]?=some o:=⟨_,L1b (h.lt j (L2a hi))⟩
   simp only[ho];obtain⟨i',h1,h2,h3⟩:=iZ hw n (i+1) _ R4 (h.next hw hi ho);refine⟨i',h1,h2,fun k hk=>h3 k ?_⟩;split
   ·exact hk
   ·exact (V8 _ _ _).2 (L4a hk)
structure eK (obs:List Ob) (l:List Val) (met:List Nat):Prop where
 nodup:met.Nodup
 lt:∀j,j∈met->j < obs.length
 shut:∀j,j∈met->jC obs met j
 roots:∀v,v∈l->v.1=2->v.2.toNat∈met
theorem bI {obs:List Ob} (hw:fU obs) {l:List Val} (hl:∀v,v∈l->v.1=2->v.2.toNat < obs.length):eK obs l (K6 obs l):=by
 have h0:cI obs 0 (C1 [] l):=⟨Q0 _ _ List.nodup_nil,bA R5 hl,fun k j hk _=>by omega⟩;obtain⟨i',h1,h2,h3⟩:=iZ hw obs.length 0 _ R4 h0;refine⟨h1.nodup,h1.lt,fun j hj=>?_,fun v hv h2'=>h3 _ ((V8 _ _ _).2 (L4b ⟨v,hv,h2',rfl⟩))⟩;obtain⟨k,hk⟩:=List.mem_iff_getElem?.1 hj;have xa:=(L1a.1 hk).1;exact h1.shut k j (by unfold K6 at xa;omega) hk
def Z1 (obs:List Ob) (al:List Nat):List Ob:=obs.mapIdx fun i o=>if i∈al then o else (0,[])
def eA (obs:List Ob) (v:Val):Bool:=if v.1=2 then (match obs[v.2.toNat]? with | some o=>o.1 == 0 | none=>true) else true
def K7 (all:List Ob) (o:Ob):Ob:=if o.1=3/\eA all (o.2.headD (0,0))=true then (o.1,o.2.set 0 (0,0)) else o
def kN (obs:List Ob):List Ob:=obs.map (K7 obs)
def R9 (obs:List Ob) (al:List Nat):List Ob:=kN (Z1 obs al)
def I8 (obs:List Ob):Nat:=(obs.filter fun o=>o.1 != 0).length
def I7 (s:McA):McA:={ s with obs:=R9 s.obs (A1 s) }
theorem cW (obs:List Ob) (al:List Nat) (j:Nat):(Z1 obs al)[j]?=(obs[j]?).map fun o=>if j∈al then o else (0,[]):=by
 simp[Z1,List.getElem?_mapIdx]
theorem Z2 (obs:List Ob) (al:List Nat) (j:Nat):(R9 obs al)[j]?=(obs[j]?).map fun o=>K7 (Z1 obs al) (if j∈al then o else (0,[])):=by
 unfold R9 kN;rw[List.getElem?_map,cW,Option.map_map];rfl
theorem S4 (obs:List Ob) (al:List Nat):(R9 obs al).length=obs.length:=by simp [R9,kN,Z1]
theorem aN (all:List Ob) (o:Ob):(K7 all o).1=o.1:=by unfold K7;split <;> rfl
section
variable {g:PgR} {o:Ob} {obs obs':List Ob} {s:McA} {v:Val}
def C7 (s:McA) (st:Int):McA:={ s with st:=st }
def G0 (s:McA):McA:=if I8 s.obs=s.obs.length then I7 s else s
def U1 (s:McA) (fs:List FrA) (f:FrA) (rest:List Val) (kind:Int) (fl:List Val):McA :=
 if I8 (G0 s).obs=(G0 s).obs.length then { G0 s with st:=6 }
 else match cD (G0 s).obs s.dr with
  | none=>s
  | some j=>⟨0,s.out,fs++[⟨f.fn,f.pc+1,f.loc,rest++[(2,(j.1:Int))]⟩],(G0 s).obs.set j.1 (kind,fl),j.2⟩
def A0 (obs:List Ob) (v:Val):Ob:=if v.1=2 then obs.getD v.2.toNat (0,[]) else (0,[])
def F8 (o:Ob) (kind:Int) (ix:Val):Int:=if o.1≠kind\/ix.1≠1 then 2 else if 0<=ix.2/\ix.2 < (o.2.length:Int) then 0 else 3
def cA (s:McA) (fs:List FrA) (f:FrA) (rest:List Val) (v:Val) (kind:Int) (ix:Val):McA :=
 if F8 (A0 s.obs v) kind ix=0 then goA s fs f (f.pc+1) (rest++[(A0 s.obs v).2.getD ix.2.toNat (0,0)]) else C7 s (F8 (A0 s.obs v) kind ix)
def setE (s:McA) (fs:List FrA) (f:FrA) (rest:List Val) (v:Val) (kind:Int) (ix y:Val):McA :=
 if F8 (A0 s.obs v) kind ix=0 then ⟨0,s.out,fs++[⟨f.fn,f.pc+1,f.loc,rest⟩],s.obs.set v.2.toNat ((A0 s.obs v).1,(A0 s.obs v).2.set ix.2.toNat y),s.dr⟩
 else C7 s (F8 (A0 s.obs v) kind ix)
def O7 (s:McA) (v:Val):Val:=if v.1=2/\v.2.toNat∈A1 s then v else (0,0)
def F6 (s:McA) (fs:List FrA) (f:FrA) (rest:List Val) (x y:Val) (z:Int):McA :=
 if x.1=1/\y.1=1 then goA s fs f (f.pc+1) (rest++[(1,z)]) else C7 s 2
def aB (g:PgR) (a:Int) (s:McA) (fs:List FrA) (f:FrA) (rest args:List Val):McA :=
 if 12<=fs.length+1 then C7 s 5
 else ⟨0,s.out,fs++[⟨f.fn,f.pc,f.loc,rest⟩]++[⟨a.toNat,0,args++List.replicate ((g.f a.toNat).l.toNat - args.length) (0,0),[]⟩],s.obs,s.dr⟩
def D2 (s:McA) (fs:List FrA) (x:Val):McA :=
 match fs.getLast? with
 | none=>⟨1,s.out,[],s.obs,s.dr⟩
 | some c=>goA s fs.dropLast c (c.pc+1) (c.stk++[x])
def doA (g:PgR) (k:Nat) (a:Int) (s:McA) (fs:List FrA) (f:FrA) (rest args:List Val):McA :=
 match k,args with
 | 0,[]=>goA s fs f (f.pc+1) (rest++[(1,a)])
 | 1,[]=>goA s fs f (f.pc+1) (rest++[(0,0)])
 | 2,[]=>goA s fs f (f.pc+1) (rest++[f.loc.getD a.toNat (0,0)])
 | 3,[x]=>⟨0,s.out,fs++[⟨f.fn,f.pc+1,f.loc.set a.toNat x,rest⟩],s.obs,s.dr⟩
 | 4,[x]=>goA s fs f (f.pc+1) (rest++[x,x])
 | 5,[_]=>goA s fs f (f.pc+1) rest
 | 6,[x,y]=>goA s fs f (f.pc+1) (rest++[y,x])
 | 7,[x,y]=>F6 s fs f rest x y (wrap64 (x.2+y.2))
 | 8,[x,y]=>F6 s fs f rest x y (wrap64 (x.2 - y.2))
 | 9,[x,y]=>F6 s fs f rest x y (wrap64 (x.2*y.2))
 | 10,[x,y]=>F6 s fs f rest x y (C9 (decide (x.2 < y.2)))
 | 11,[x,y]=>goA s fs f (f.pc+1) (rest++[(1,C9 (x.1 == y.1 && x.2 == y.2))])
 | 12,[]=>goA s fs f a.toNat rest
 | 13,[x]=>if L0 x then goA s fs f (f.pc+1) rest else goA s fs f a.toNat rest
 | 14,l=>aB g a s fs f rest l
 | 15,[x]=>D2 s fs x
 | 16,[]=>U1 s fs f rest 1 (List.replicate a.toNat (0,0))
 | 17,[x]=>if x.1≠1 then C7 s 2 else if 0<=x.2/\x.2<=12 then U1 s fs f rest 2 (List.replicate x.2.toNat (0,0)) else C7 s 4
 | 18,[x]=>if x.1=2 then U1 s fs f rest 3 [x] else C7 s 2
 | 19,[x]=>cA s fs f rest x 1 (1,a)
 | 20,[x,y]=>setE s fs f rest x 1 (1,a) y
 | 21,[x,y]=>cA s fs f rest x 2 y
 | 22,[x,y,z]=>setE s fs f rest x 2 y z
 | 23,[x]=>if (A0 s.obs x).1=1\/(A0 s.obs x).1=2 then goA s fs f (f.pc+1) (rest++[(1,((A0 s.obs x).2.length:Int))]) else C7 s 2
 | 24,[x]=>if (A0 s.obs x).1=3 then goA s fs f (f.pc+1) (rest++[O7 s ((A0 s.obs x).2.headD (0,0))]) else C7 s 2
 | 25,[x]=>goA s fs f (f.pc+1) (rest++[(1,C9 (x.1 == 2))])
 | 26,[x]=>if x.1≠1 then C7 s 2 else if 40<=s.out.length then C7 s 7 else ⟨0,s.out++[x.2],fs++[⟨f.fn,f.pc+1,f.loc,rest⟩],s.obs,s.dr⟩
 | 27,[]=>⟨1,s.out,[],s.obs,s.dr⟩
 | _,_=>s
def U3 (g:PgR) (s:McA):McA :=
 match s.frs.getLast? with
 | none=>s
 | some f =>
  doA g ((g.f f.fn).op f.pc).toNat ((g.f f.fn).ar f.pc) s s.frs.dropLast f
   (f.stk.take (f.stk.length - (O1 ((g.f f.fn).op f.pc) (g.f ((g.f f.fn).ar f.pc).toNat).p).toNat))
   (f.stk.drop (f.stk.length - (O1 ((g.f f.fn).op f.pc) (g.f ((g.f f.fn).ar f.pc).toNat).p).toNat))
def VOk (obs:List Ob) (v:Val):Prop:=v=(0,0)\/v.1=1\/(v.1=2/\0<=v.2/\∃o,obs[v.2.toNat]?=some o/\o.1≠0)
def OOk (obs:List Ob) (o:Ob):Prop :=
 (o.1=0/\o.2=[])\/(o.1=1/\o.2.length<=8/\∀v,v∈o.2->VOk obs v)\/(o.1=2/\o.2.length<=12/\∀v,v∈o.2->VOk obs v)\/(o.1=3/\∃v,o.2=[v]/\VOk obs v/\v.1≠1)
structure gN (g:PgR) (f:FrA) (q:Int):Prop where
 fn:f.fn < g.n
 loc:(f.loc.length:Int)=(g.f f.fn).l
 reach:(B6 g (g.f f.fn)).Reach f.pc (f.stk.length+q)
def gO (g:PgR):Nat->List FrA->Prop
 | fn,[]=>fn=0
 | fn,c::r=>gN g c (g.f fn).p/\(g.f c.fn).op c.pc=14/\(g.f c.fn).ar c.pc=fn/\gO g c.fn r
def oX (g:PgR):List FrA->Prop
 | []=>True
 | f::r=>gN g f 0/\gO g f.fn r
structure D4 (g:PgR) (s:McA):Prop where
 run:s.st=0->s.frs≠[]
 frs:oX g s.frs.reverse
 depth:s.frs.length<=12
 vals:∀f,f∈s.frs->∀v,v∈f.loc++f.stk->VOk s.obs v
 obs:∀o,o∈s.obs->OOk s.obs o
 cap:1<=s.obs.length/\s.obs.length<=40
 out:s.out.length<=40
 dr:s.dr.length<=200
theorem VOk.ref (h:VOk obs v) (h2:v.1=2):0<=v.2/\∃o,obs[v.2.toNat]?=some o/\o.1≠0:=by
 rcases h with rfl | h | h
 ·simp at h2
 ·omega
 ·exact h.2
theorem VOk.lt (h:VOk obs v) (h2:v.1=2):v.2.toNat < obs.length:=by
 obtain⟨_,o,ho,_⟩:=h.ref h2;exact (L1a.1 ho).1
theorem OOk.vals (h:OOk obs o) {v:Val} (hv:v∈o.2):VOk obs v:=by
 rcases h with h | h | h | ⟨_,u,h,h',_⟩
 ·rw [h.2] at hv;cases hv
 ·exact h.2.2 v hv
 ·exact h.2.2 v hv
 ·rw [h,List.mem_singleton] at hv;subst hv;exact h'
theorem OOk.len (h:OOk obs o):o.2.length<=12:=by
 rcases h with h | h | h | ⟨_,u,h,_⟩
 ·rw [h.2];simp
 ·omega
 ·omega
 ·rw [h];simp
theorem D4.within (h:D4 g s):fU s.obs:=fun o ho _ hv h2=>((h.obs o ho).vals hv).lt h2
theorem F9 {l:List FrA} : v∈C4 l↔∃f,f∈l/\v∈f.loc++f.stk:=by simp [C4,List.mem_flatMap]
theorem D4.alive (h:D4 g s):eK s.obs (C4 s.frs) (A1 s) :=
 bI h.within fun v hv h2=>by
  obtain⟨f,hf,hv⟩:=F9.1 hv;exact (h.vals f hf v hv).lt h2
theorem VOk.mono (h:VOk obs v) (hk:v.1=2->∀o,obs[v.2.toNat]?=some o->o.1≠0->∃o',obs'[v.2.toNat]?=some o'/\o'.1≠0):VOk obs' v:=by
 rcases h with h | h | ⟨h2,h0,o,ho,hne⟩
 ·exact L4a h
 ·exact L4b (L4a h)
 ·exact L4b (L4b ⟨h2,h0,hk h2 o ho hne⟩)
theorem OOk.mono (h:OOk obs o) (hv:∀v,v∈o.2->VOk obs v->VOk obs' v):OOk obs' o:=by
 rcases h with h | ⟨h1,h2,h3⟩ | ⟨h1,h2,h3⟩ | ⟨h1,u,h2,h3,h4⟩
 ·exact L4a h
 ·exact L4b (L4a ⟨h1,h2,fun v hm=>hv v hm (h3 v hm)⟩)
 ·exact L4b (L4b (L4a ⟨h1,h2,fun v hm=>hv v hm (h3 v hm)⟩))
 ·exact L4b (L4b (L4b ⟨h1,u,h2,hv u (by rw [h2];simp) h3,h4⟩))
end
end Go.Proofs.YtbkmgoffiigdbaaGreatDoor
