import Derived.Test.YtbkmgoffiigdbaaGreatDoorVBb
namespace Go.Proofs.YtbkmgoffiigdbaaGreatDoor
open Go.RowKit Go.Sort Go.Proofs.Tryz
set_option maxHeartbeats 4000000
set_option maxRecDepth 100000
section
variable {g:PgR} {mb:Nat} {own:Own} {p:FrR} {w w':World}
theorem A9.addFrame {R:RfR} {hv:Value} (h:A9 w own mb g R) (hsize:w.heap.size<=w'.heap.size)
  (hk:∀k,k < w.heap.size->k≠mb->own k≠some .called->w'.heap[k]?=w.heap[k]?)
  (hc:∀j,j≠4->w'.cell? ⟨mb,j,none⟩=w.cell? ⟨mb,j,none⟩) (hc4:w'.cell? ⟨mb,4,none⟩=some hv) (hfz:∀j,w'.frozen? ⟨mb,j,none⟩=false)
  (hrow:w'.ownsRow 0 86 4 hv (R.frs.length+1) ((R.frs++[p]).flatMap FrR.cells)) (hon:E7 w own hv .called)
  (hfld:w.ownsRow 0 92 2 p.lv p.loc.length (A7 p.loc)) (hnb:S6 own g p.lv) (hnd:∀b o,R.da=some ⟨b,o,none⟩->p.lv.ownBlock≠some b) (hs:p.sv=.slice none 0 0/\p.stk=[]) :
  A9 w' ((own.upd p.lv.ownBlock (.loc R.frs.length)).upd hv.ownBlock .called) mb g { R with cv:=hv,frs:=R.frs++[p] }/\∀k,k < w.heap.size->p.lv.ownBlock≠some k->((own.upd p.lv.ownBlock (.loc R.frs.length)).upd hv.ownBlock .called) k=own k:=by
 have xd:=h.lt;have xc:∀k t,own k=some t->((own.upd p.lv.ownBlock (.loc R.frs.length)).upd hv.ownBlock .called) k=some t:=fun k t hkt=>by
  unfold Own.upd;by_cases e1:hv.ownBlock=some k
  ·rw [if_pos e1]
   rcases hon k e1 with e | e
   ·rw [e] at hkt;exact hkt
   ·have:=xd k t hkt;omega
  ·rw [if_neg e1,if_neg (fun e=>by have:=(hnb k e).1;rw [hkt] at this;cases this)]
   exact hkt
 have xb:∀k,own k=none->k < w.heap.size->p.lv.ownBlock≠some k->((own.upd p.lv.ownBlock (.loc R.frs.length)).upd hv.ownBlock .called) k=none:=fun k hkn hks hkp=>by
  unfold Own.upd;rw[if_neg (fun e=>by
   rcases hon k e with e | e
   ·rw [hkn] at e;cases e
   ·omega),if_neg hkp]
  exact hkn
 have keep:∀t,t≠.mach->t≠.called->∀k,own k=some t->w'.heap[k]?=w.heap[k]?/\((own.upd p.lv.ownBlock (.loc R.frs.length)).upd hv.ownBlock .called) k=some t:=fun t h1 h2 k hk' =>
  ⟨hk k (xd k t hk') (fun e=>by rw [e,h.me] at hk';exact h1 (L5b hk').symm) (by rw [hk'];exact fun e=>h2 (L5b e)),xc k t hk'⟩
 have xe:∀k,k < w.heap.size->own k=none->w'.heap[k]?=w.heap[k]?:=fun k hk1 hk2=>hk k hk1 (fun e=>by rw [e,h.me] at hk2;cases hk2) (by rw [hk2];simp)
 refine⟨h.edit (R':={ R with cv:=hv,frs:=R.frs++[p] }) hsize (fun k t hk'=>?_) (xc _ _ h.me) (fun k hn hks hor=>⟨xb k hn hks ?_,xe k hks hn⟩) (hc 0 R4) ((hc 1 R4).trans h.c1) ((hc 2 R4).trans h.c2) ((hc 3 R4).trans h.c3) hc4 ((hc 5 R4).trans h.c5) (hc 6 R4) hfz
  (h.out.kept (keep _ R6 R6)) ⟨by rw [show ({ R with cv:=hv,frs:=R.frs++[p] } : RfR).frs.length=R.frs.length+1 by simp];exact hrow,fun b hb=>by unfold Own.upd;rw [if_pos hb]⟩ (h.things.kept (keep _ R6 R6)) (fun i x hx=>?_) (fun i x hx=>?_) (fun i x hx=>(h.fld i x hx).kept (keep _ R6 R6)) (fun b o e=>xb b (h.dro b o e).2 (h.dro b o e).1 (hnd b o e)) rfl rfl rfl,fun k hks hkp=>?_⟩
 ·unfold Own.upd at hk'
  split at hk'
  ·rename_i e;exact (hrow.lt k e).2
  ·split at hk'
   ·rename_i e;exact L0a (hfld.lt k e).2 hsize
   ·exact L0a (xd k t hk') hsize
 ·rcases hor with hb | rfl | ⟨o,e⟩
  ·exact fun e=>(hnb k e).2.1 k hb rfl
  ·exact fun e=>(hnb 0 e).2.2 rfl
  ·exact hnd k o e
 ·by_cases e:i=R.frs.length
  ·subst e
   obtain rfl:p=x:=by
    have:(R.frs++[p])[R.frs.length]?=some x:=hx;simpa using this
   refine⟨A6 hfld fun b hb=>xe b (hfld.lt b hb).2 (hnb b hb).1,fun b hb=>?_⟩;unfold Own.upd;rw[if_neg (fun e1=>by
    rcases hon b e1 with e2 | e2
    ·have:=(hnb b hb).1;rw [e2] at this;cases this
    ·have:=(hfld.lt b hb).2;omega),if_pos hb]
  ·have xa:(R.frs++[p])[i]?=some x:=hx
   have hi:i < R.frs.length:=by
    have:=(L1a.1 xa).1;simp at this;omega
   rw[List.getElem?_append_left hi] at xa;exact (h.loc i x xa).kept (keep _ R6 R6)
 ·by_cases e:i=R.frs.length
  ·subst e
   obtain rfl:p=x:=by
    have:(R.frs++[p])[R.frs.length]?=some x:=hx;simpa using this
   rw[hs.1,hs.2];exact⟨World.ownsRow_nil _ _ _ _,fun b hb=>by cases hb⟩
  ·have xa:(R.frs++[p])[i]?=some x:=hx
   have hi:i < R.frs.length:=by
    have:=(L1a.1 xa).1;simp at this;omega
   rw[List.getElem?_append_left hi] at xa;exact (h.stk i x xa).kept (keep _ R6 R6)
 ·cases e:own k with
  | none=>exact xb k e hks hkp
  | some t=>exact xc k t e
theorem lK {X w4:World} {R:RfR} {v4:Value} (h:A9 w own mb g R) (hX:L0d w X) (hgrow:X.grownBy w4 R.cv.ownBlock) (hown:w4.ownsRow 0 86 4 v4 (R.frs.length+1) (R.frs.flatMap FrR.cells++p.cells)) (hat:∀b,v4.ownBlock=some b->R.cv.ownBlock=some b\/w.heap.size<=b)
  (hfld:w.ownsRow 0 92 2 p.lv p.loc.length (A7 p.loc)) (hnb:S6 own g p.lv) (hnd:∀b o,R.da=some ⟨b,o,none⟩->p.lv.ownBlock≠some b) (hs:p.sv=.slice none 0 0/\p.stk=[]) :
  w4.cell? ⟨mb,4,none⟩=some R.cv/\w4.frozen? ⟨mb,4,none⟩=false/\mb < w4.heap.size/\(∀k,k < w.heap.size->own k=none->w4.heap[k]?=w.heap[k]?) /\
   A9 (w4.setCell ⟨mb,4,none⟩ v4) ((own.upd p.lv.ownBlock (.loc R.frs.length)).upd v4.ownBlock .called) mb g { R with cv:=v4,frs:=R.frs++[p] } /\
   ∀B,B<=w.heap.size->(∀b,p.lv.ownBlock=some b->B<=b)->bS B own w ((own.upd p.lv.ownBlock (.loc R.frs.length)).upd v4.ownBlock .called) (w4.setCell ⟨mb,4,none⟩ v4):=by
 have xg:=h.lt _ _ h.me;have xf:∀b,R.cv.ownBlock=some b->own b=some .called:=h.called.2
 have xc:w.heap.size<=w4.heap.size:=L5a hX.size hgrow.size;have xa:∀k,k < w.heap.size->own k≠some .called->w4.heap[k]?=w.heap[k]?:=fun k hk ho=>by
  rw[hgrow.block k (L0a hk hX.size) (fun e=>ho (xf k e.symm)),hX.block k hk]
 have xb:=xa mb xg (by rw [h.me];simp);have xe:∀j,w4.frozen? ⟨mb,j,none⟩=false:=fun j=>by rw [L0c (w:=w) (a:=⟨mb,j,none⟩) xb];exact h.fz j
 have hc:∀j,w4.cell? ⟨mb,j,none⟩=w.cell? ⟨mb,j,none⟩:=fun j=>L0b (w:=w) (a:=⟨mb,j,none⟩) xb
 have xd:E7 w own v4 .called:=fun b hb=>by
  rcases hat b hb with e | e
  ·exact L4a (xf b e)
  ·exact L4b e
 have xh:v4.ownBlock≠some mb:=fun e=>by
  rcases xd mb e with e | e
  ·rw [h.me] at e;cases e
  ·omega
 have c4:w4.cell? ⟨mb,4,none⟩=some R.cv:=(hc 4).trans h.c4;have hp:=h.addFrame (w':=w4.setCell ⟨mb,4,none⟩ v4) (p:=p) (hv:=v4) (by simpa using xc) (fun k hk hne ho=>by rw [heap_setCell_other _ _ _ _ hne];exact xa k hk ho) (fun j hj=>(B9 _ (Ne.symm hj)).trans (hc j)) (World.cell?_setCell_same _ _ _ c4) (fun j=>by go_simp;try exact xe j)
  (by rw [List.flatMap_append,List.flatMap_singleton];exact ownsRow_setCell_other hown xh _) xd hfld hnb hnd hs
 refine⟨c4,xe 4,L0a xg xc,fun k hk hn=>xa k hk (by rw [hn];simp),hp.1,fun B hB hfB=>⟨hgrow.os.trans hX.os,hgrow.tape.trans hX.tape,hgrow.output.trans hX.output,by simpa using xc,fun k hk hn=>?_,fun k hk=>hp.2 k (L0a hk hB) fun e=>by have:=hfB k e;omega⟩⟩;rw[heap_setCell_other _ _ _ _ (fun e=>by rw [e,h.me] at hn;cases hn)];exact xa k (L0a hk hB) (by rw [hn];simp)
theorem A9.setOwn {R:RfR} {fs:List FrR} {f f':FrR} {cb cc:Nat} (h:A9 w own mb g R) (hf:R.frs=fs++[f]) (hcv:R.cv=.slice (zA cb) R.frs.length cc) (hlv:f'.lv=f.lv) (hloc:f'.loc=f.loc) (hsize:w.heap.size=w'.heap.size) (hk:∀k,k≠cb->w'.heap[k]?=w.heap[k]?)
  (hrow:w'.ownsRow 0 86 4 (.slice (zA cb) R.frs.length cc) R.frs.length ((fs++[f']).flatMap FrR.cells)) (hst:Row w own (.stk fs.length) 92 2 f'.sv f'.stk.length (A7 f'.stk)) :
  A9 w' own mb g { R with frs:=fs++[f'] }:=by
 have xe:=h.lt;have xa:own cb=some .called:=h.called.2 cb (by rw [hcv];rfl);have keep:∀t,t≠.called->∀k,own k=some t->w'.heap[k]?=w.heap[k]?/\own k=some t:=fun t ht k hk'=>⟨hk k (fun e=>by rw [e,xa] at hk';exact ht (L5b hk').symm),hk'⟩
 have xc:=(keep .mach R6 mb h.me).1;have kc:∀i,w'.cell? ⟨mb,i,none⟩=w.cell? ⟨mb,i,none⟩:=fun i=>L0b (w:=w) (a:=⟨mb,i,none⟩) xc
 have xf:(fs++[f']).length=R.frs.length:=by rw [hf];simp
 have xd:R.frs[fs.length]?=some f:=by rw [hf];simp
 have xb:∀i x,(fs++[f'])[i]?=some x->(i=fs.length/\x=f')\/(i < fs.length/\R.frs[i]?=some x):=fun i x hx=>by
  rcases Nat.lt_or_ge i fs.length with hl | hl
  ·rw [List.getElem?_append_left hl] at hx
   exact L4b ⟨hl,by rw [hf,List.getElem?_append_left hl];exact hx⟩
  ·rw [List.getElem?_append_right hl] at hx
   have:i - fs.length=0:=by
    have:=(L1a.1 hx).1;simp at this;omega
   rw[this] at hx;exact L4a ⟨by omega,by simpa using hx.symm⟩
 refine h.edit (R':={ R with frs:=fs++[f'] }) (Nat.le_of_eq hsize) (fun k t hk'=>by rw [<- hsize];exact xe k t hk') h.me (fun k hn _ _=>⟨hn,hk k fun e=>by rw [e,xa] at hn;cases hn⟩) (kc 0) ((kc 1).trans h.c1) ((kc 2).trans h.c2) ((kc 3).trans h.c3) ((kc 4).trans h.c4) ((kc 5).trans h.c5) (kc 6) (fun j=>by rw [L0c (w:=w) (a:=⟨mb,j,none⟩) xc];exact h.fz j)
  (h.out.kept (keep _ R6)) ⟨?_,fun b hb=>?_⟩ (h.things.kept (keep _ R6)) (fun i x hx=>?_) (fun i x hx=>?_) (fun i x hx=>(h.fld i x hx).kept (keep _ R6)) (fun b o e=>(h.dro b o e).2) rfl rfl rfl
 ·rw [show ({ R with frs:=fs++[f'] } : RfR).frs.length=R.frs.length from xf]
  show w'.ownsRow 0 86 4 R.cv R.frs.length _;rw[hcv];exact hrow
 ·exact h.called.2 b hb
 ·rcases xb i x hx with ⟨rfl,rfl⟩ | ⟨hi,hx⟩
  ·rw [hlv,hloc]
   exact (h.loc _ f xd).kept (keep _ R6)
  ·exact (h.loc i x hx).kept (keep _ R6)
 ·rcases xb i x hx with ⟨rfl,rfl⟩ | ⟨hi,hx⟩
  ·exact hst.kept (keep _ R6)
  ·exact (h.stk i x hx).kept (keep _ R6)
end
section
variable {R:RfR} {W w:World} {fs:List FrR} {g:PgR} {mb:Nat} {own:Own}
theorem a0G (h:A9 W own mb g R) (hd:12<=R.frs.length) (hd2:R.frs.length<=1000) (k:Int) :
  Calls prog 137 #[zB mb,J k] W fun e w'=>e=.returned (J 5)/\w'=W:=by
 have xb:=h.lt _ _ h.me;obtain⟨a,c,hv,_⟩:=C2 h.called.1;have m4:=h.c4;rw[hv] at m4;have xa:(12:Int)<=(R.frs.length:Int):=by omega
 generalize R.frs.length=n at *
 clear h hv;go_enter func137,ntmps137;go_wp2_with fail;go_ret;exact⟨rfl,rfl⟩
theorem A9.cutTop {R:RfR} {f:FrR} {cb cc:Nat} (h:A9 w own mb g R) (hf:R.frs=fs++[f]) (hcv:R.cv=.slice (zA cb) R.frs.length cc) {rest:List Val} {sv:Value} (hst:Row w own (.stk fs.length) 92 2 sv rest.length (A7 rest)) :
  A9 (w.setCell ⟨cb,fs.length*4+3,none⟩ sv) own mb g { R with frs:=fs++[{ f with sv:=sv,stk:=rest }] }/\A2 own w own (w.setCell ⟨cb,fs.length*4+3,none⟩ sv):=by
 have hl:=h.called.1;rw[hcv] at hl;have xd:R.frs[fs.length]?=some f:=by rw [hf];simp
 have xb:own cb=some .called:=h.called.2 cb (by rw [hcv];rfl);have hr:=(World.ownsRow.stored hl (fs.length*4+3) sv).1;rw[<- I7 (c:=FrR.cells) FrR.cells_len (l:=R.frs) (i:=fs.length) (j:=3) (x:=f) (y:={ f with sv:=sv,stk:=rest }) (u:=sv) xd R5 rfl] at hr;have xc:R.frs.set fs.length { f with sv:=sv,stk:=rest }=fs++[{ f with sv:=sv,stk:=rest }]:=by rw [hf];simp
 rw[xc] at hr;have xa:∀k,k≠cb->(w.setCell ⟨cb,fs.length*4+3,none⟩ sv).heap[k]?=w.heap[k]?:=fun k hk=>heap_setCell_other _ _ _ _ hk
 exact⟨h.setOwn (f':={ f with sv:=sv,stk:=rest }) hf hcv rfl rfl R6 xa hr hst,⟨rfl,rfl,rfl,by simp,fun k _ hn=>xa k (fun e=>by rw [e,xb] at hn;cases hn),fun _ _=>rfl⟩⟩
theorem a7S {t:Tag} {sb n sc:Nat} {rest args:List Val} (h:Row w own t 92 2 (.slice (zA sb) n sc) n (A7 (rest++args))) (hn:n=rest.length+args.length):Row w own t 92 2 (.slice (zA sb) rest.length sc) rest.length (A7 rest):=by
 have:=h.cut (m:=rest.length) R5;rwa [J7,List.take_append_of_le_length (by rw [D8];omega),List.take_of_length_le (by rw [D8];omega)] at this
theorem a5O {R:RfR} {f:FrR} (h:A9 W own mb g R) (hf:R.frs=fs++[f]) (k p l:Nat) (hk:k < g.n) (hgn:g.n<=1000) (hp:(g.f k).p=(p:Int)) (hl:(g.f k).l=(l:Int)) (hpl:p<=l) (hl8:l<=1000) (hd:fs.length+1 < 12) {rest args:List Val} (hst:f.stk=rest++args) (hap:args.length=p) (hsn:f.stk.length<=1000) {sb sc:Nat} (hsv:f.sv=.slice (zA sb) f.stk.length sc) (hcut:rest.length < sc) :
  Calls prog 137 #[zB mb,J (k:Int)] W fun e w'=>e=.returned (J 0)/\∃own' cv lv sv,A9 w' own' mb g { R with cv:=cv,frs:=fs++[{ f with sv:=sv,stk:=rest }]++[⟨k,0,lv,zD,args++List.replicate (l - args.length) (0,0),[]⟩] }/\A2 own W own' w':=by
 have yz:=h.lt _ _ h.me;obtain⟨ca,cc,xg,_,xy⟩:=Row.cells FrR.cells_len h.called;have xj:R.frs.length=fs.length+1:=by rw [hf];simp
 have xn:R.frs[fs.length]?=some f:=by rw [hf];simp
 obtain⟨cb,rfl,zc,yr,xr,xu⟩:=xy R5;have k3:=xu fs.length 3 f _ xn R4 rfl;have zb:=xr (fs.length*4+3);have m4:=h.c4;rw[xg,xj] at m4;obtain⟨g1,g2,g3⟩:=h.pg.2.1 R5;obtain⟨x0,x1,x2⟩:=g3 k hk;rw[hp] at x0;rw[hl] at x1;have m0:=h.c0;rw[g1] at m0;have yb:f.stk.length=rest.length+p:=by rw [hst,List.length_append,hap]
 rw[hsv,yb] at k3;have yv:(k:Int) < (g.n:Int):=by omega
 have yy:¬(12:Int)<=(fs.length:Int)+1:=by omega
 have xd:=h.stk fs.length f xn;obtain⟨yt,yk,e5,yl,xm⟩:=xd.vals;rw[hsv] at e5;have zd:rest.length+p<=sc:=by
  have:yk=sc:=by injection e5 with _ _ q;exact q.symm
  omega
 have xa:a6Z W (some ⟨sb,rest.length*2,none⟩) args:=fun h0=>by
  obtain⟨b,e,hb,hc⟩:=xm R5;have e6:b=sb:=by
   injection e5 with q _ _
   rw[e] at q
   injection q with q
   injection q with q
   exact q.symm
  subst e6;refine⟨b,rest.length*2,rfl,hb,fun q u hu=>?_⟩;have yn:(A7 f.stk)[rest.length*2+q]?=some u:=by
   rw[hst,J7,List.getElem?_append_right (by rw [D8];omega),D8,Nat.add_sub_cancel_left];exact hu
  obtain⟨d,e7,xl⟩:=xm.src R5;rw[e] at e7
  cases e7;have:=xl _ u yn;rwa [X8] at this
 have xv:Row W own (.stk fs.length) 92 2 (.slice (zA sb) rest.length sc) rest.length (A7 rest):=by
  have h9:=xd;rw[hsv,hst] at h9;exact a7S h9 (by rw [List.length_append])
 obtain⟨hM,xw⟩:=h.cutTop hf xg xv;have HM:=hid hM;have xi:Hid ((W.setCell ⟨cb,fs.length*4+3,none⟩ (.slice (zA sb) rest.length sc)).ownsRow 0 86 4 (.slice (zA cb) (fs.length+1) cc) (fs.length+1) ((fs++[{ f with sv:=.slice (zA sb) rest.length sc,stk:=rest }]).flatMap FrR.cells)):=hid (by
  have h9:=hM.called.1;rw[show ({ R with frs:=fs++[{ f with sv:=.slice (zA sb) rest.length sc,stk:=rest }] } : RfR).cv=.slice (zA cb) R.frs.length cc from xg,xj] at h9;simpa using h9)
 have xk:=hid xg;have xo:=hid xj;have yh:=hid xw;have HH:=hid h;obtain⟨xp,hi,hz,xq,xx⟩:=info_parts J2;have xz:Hid (∀W:World,(Instr.makeSlice 84 (J (l:Int)) (J (l:Int))).run prog W=.ok (.slice (zA W.heap.size) l l) (W.alloc (.cells (madeCells #[zC 0,J 0] (l*2)) 92))):=by
  intro W;have hr:=run_make (P:=prog) W 84 92 xp _ underlying84 hi hz .i64 .i64 l l R5 (Int.le_refl _) (by rw [xx];omega) R5;simpa [xq,Value.cells] using hr
 have yw:=xz.out;subst hap;have yu:=gS (w:=W) (vc:=sc - rest.length) (l:=l) hpl xa (.cells #[J (args.length:Int),J (l:Int),.slice (g.f k).a (g.f k).n (g.f k).c] 163);obtain⟨ym,xt,xs,xe,xh⟩:=info_parts jA;have HI:=hid xt;have HZ:=hid xs;have ye:=hid xe;have yq:=hid xh;have yx:¬rest.length=sc:=by omega
 have yi:(rest.length:Int)<=(rest.length:Int)+(args.length:Int):=by omega
 have yd:rest.length<=sc:=by omega
 have yg:mb < W.heap.size+1:=by omega
 have yc:cb < W.heap.size+1:=by omega
 have yf:mb < W.heap.size+1+1:=by omega
 have yp:cb < W.heap.size+1+1:=by omega
 have yj:rest.length+args.length<=1000:=by omega
 clear h hf hp hl hst hsv xg xy xu xr xn xj g1 g3 hM xw xd e5 yl xm xa xv hi hz xq xx xt xs xe xh xz yb hsn;go_enter func137,ntmps137;go_wp2_with fail;go_region
 go_wp2_with (at_builtin;go_must (refine A8 _ rfl (.tmp 67) (.tmp 71) 66 rfl 0 86 ym _ 4 64 underlying66 HI.out HZ.out ye.out yq.out rfl R4 (.slice (zA cb) (fs.length+1) cc) (fs.length+1) ((fs++[{ f with sv:=.slice (zA sb) rest.length sc,stk:=rest }]).flatMap FrR.cells) rfl (by repeat (first | exact xi.out | refine World.ownsRow.alloc ?_ _ | refine World.ownsRow.drew ?_)) (some ⟨W.heap.size+1+1,0,none⟩) 1 1 [J (k:Int),J 0,.slice (some ⟨W.heap.size+1,0,none⟩) l l,zD] rfl rfl (fun _=>⟨_,rfl,World.news_of_block (cs:=#[J (k:Int),J 0,.slice (some ⟨W.heap.size+1,0,none⟩) l l,zD]) (t:=86) (fr:=(0,0)) (B0 R6)⟩) (by intro u hu;simp at hu;rcases hu with rfl | rfl | rfl | rfl <;> rfl) Q7 R5 R6 ?_))
 intro v4 w4 hown4 hgrow4 hat4;obtain⟨va,vc,ys,_⟩:=C2 hown4;subst ys;have xb:(args++List.replicate (l - args.length) ((0,0):Val)).length=l:=by rw [List.length_append,List.length_replicate];omega
 have xf:(((W.setCell ⟨cb,fs.length*4+3,none⟩ (.slice (zA sb) rest.length sc)).alloc (Obj.cells #[J (args.length:Int),J (l:Int),.slice (g.f k).a (g.f k).n (g.f k).c] 163)).alloc (Obj.cells (A7 (args++List.replicate (l - args.length) (0,0))).toArray 92)).ownsRow 0 92 2 (.slice (some ⟨W.heap.size+1,0,none⟩) l l) (args++List.replicate (l - args.length) ((0,0):Val)).length (A7 (args++List.replicate (l - args.length) (0,0))):=by
  have h9:=World.ownsRow_lit (base:=0) (e:=92) (size:=2) ((W.setCell ⟨cb,fs.length*4+3,none⟩ (.slice (zA sb) rest.length sc)).alloc (Obj.cells #[J (args.length:Int),J (l:Int),.slice (g.f k).a (g.f k).n (g.f k).c] 163)) (A7 (args++List.replicate (l - args.length) (0,0))).toArray l (L4c _) Q7 (by simp only [List.size_toArray];rw [D8,xb])
  rw[xb];simpa using h9
 have xc:∀b,(Value.slice (some ⟨W.heap.size+1,0,none⟩) l l).ownBlock=some b->b=W.heap.size+1:=fun b hb=>by
  have:W.heap.size+1=b:=by simpa [Value.ownBlock] using hb
  exact this.symm
 have ya:S6 own g (.slice (some ⟨W.heap.size+1,0,none⟩) l l):=fun b hb=>by
  have:=xc b hb;subst this;refine⟨?_,fun q hq e=>?_,by omega⟩
  ·cases e:own (W.heap.size+1) with
   | none=>rfl
   | some t=>have:=HH.out.lt _ t e;omega
  ·have:=HH.out.pg.blk_lt hq;omega
 obtain⟨q1,q2,q3,q4,q5,q6⟩:=lK (p:=⟨k,0,(.slice (some ⟨W.heap.size+1,0,none⟩) l l),zD,args++List.replicate (l - args.length) (0,0),[]⟩) (HM.out.same (L3a (L3a (L3b _ _) (L1c _) _) Q2 _)) (L3c (L3a (L3b _ _) (L1c _) _)) (by rw [show ({ R with frs:=fs++[{ f with sv:=.slice (zA sb) rest.length sc,stk:=rest }] } : RfR).cv=.slice (zA cb) (fs.length+1) cc by rw [<- xo.out];exact xk.out];exact hgrow4) (by simpa [FrR.cells] using hown4) (fun b hb=>by
  rcases hat4 b hb with e | e
  ·exact L4a (by rw [show ({ R with frs:=fs++[{ f with sv:=.slice (zA sb) rest.length sc,stk:=rest }] } : RfR).cv=.slice (zA cb) (fs.length+1) cc by rw [<- xo.out];exact xk.out];exact e)
  ·exact L4b Q9) xf ya (fun b o e hb=>by
  have:=xc b hb;have:=(HH.out.dro b o e).1;omega) ⟨rfl,rfl⟩
 have za:w4.cell? ⟨mb,4,none⟩=some (.slice (zA cb) (fs.length+1) cc):=by rw [q1];show some R.cv=_;rw [xk.out,xo.out]
 have HT:=hid (((yh.out.touB (L1c _)).trans (bS.of_below ((L3a (L3a (L3b _ _) (L1c _) _) Q2 _).mono R6))).trans (q6 W.heap.size Q2 (fun b hb=>by have:=xc b hb;omega))).touched;have yo:=hid q5;clear q1 q4 q5 q6 hown4 hgrow4 hat4 xf ya;go_wp2_with fail;go_ret;exact⟨rfl,_,⟨_,_,_,by have h9:=yo.out;rw [List.append_assoc] at h9;exact h9⟩,HT.out⟩
end
section
variable {W:World} {fs:List FrR} {g:PgR} {mb:Nat} {own:Own}
theorem a3q {R:RfR} {f:FrR} (h:A9 W own mb g R) (hf:R.frs=fs++[f]) (k l:Nat) (hk:k < g.n) (hgn:g.n<=1000) (hp:(g.f k).p=0) (hl:(g.f k).l=(l:Int)) (hl8:l<=1000) (hd:fs.length+1 < 12) {rest:List Val} (hst:f.stk=rest) (hsn:f.stk.length<=1000) {sb sc:Nat} (hsv:f.sv=.slice (zA sb) f.stk.length sc) (hcut:sc=rest.length) :
  Calls prog 137 #[zB mb,J (k:Int)] W fun e w'=>e=.returned (J 0)/\∃own' cv lv sv,A9 w' own' mb g { R with cv:=cv,frs:=fs++[{ f with sv:=sv,stk:=rest }]++[⟨k,0,lv,zD,List.replicate l (0,0),[]⟩] }/\A2 own W own' w':=by
 have yu:=h.lt _ _ h.me;obtain⟨ca,cc,xf,_,xv⟩:=Row.cells FrR.cells_len h.called;have xi:R.frs.length=fs.length+1:=by rw [hf];simp
 have xk:R.frs[fs.length]?=some f:=by rw [hf];simp
 obtain⟨cb,rfl,yx,yn,xo,xr⟩:=xv R5;have k3:=xr fs.length 3 f _ xk R4 rfl;have yw:=xo (fs.length*4+3);have m4:=h.c4;rw[xf,xi] at m4;obtain⟨g1,g2,g3⟩:=h.pg.2.1 R5;obtain⟨x0,x1,x2⟩:=g3 k hk;rw[hp] at x0;rw[hl] at x1;have m0:=h.c0;rw[g1] at m0;have xy:f.stk.length=rest.length:=by rw [hst]
 rw[hsv,xy] at k3;have yr:(k:Int) < (g.n:Int):=by omega
 have yt:¬(12:Int)<=(fs.length:Int)+1:=by omega
 have xc:=h.stk fs.length f xk;obtain⟨yp,yg,e5,yh,yi⟩:=xc.vals;rw[hsv] at e5;have yy:rest.length<=sc:=by
  have:yg=sc:=by injection e5 with _ _ q;exact q.symm
  omega
 have xs:Row W own (.stk fs.length) 92 2 (.slice (zA sb) rest.length sc) rest.length (A7 rest):=by
  have h9:=xc;rw[hsv,hst] at h9;exact h9
 obtain⟨hM,xt⟩:=h.cutTop hf xf xs;have HM:=hid hM;have xh:Hid ((W.setCell ⟨cb,fs.length*4+3,none⟩ (.slice (zA sb) rest.length sc)).ownsRow 0 86 4 (.slice (zA cb) (fs.length+1) cc) (fs.length+1) ((fs++[{ f with sv:=.slice (zA sb) rest.length sc,stk:=rest }]).flatMap FrR.cells)):=hid (by
  have h9:=hM.called.1;rw[show ({ R with frs:=fs++[{ f with sv:=.slice (zA sb) rest.length sc,stk:=rest }] } : RfR).cv=.slice (zA cb) R.frs.length cc from xf,xi] at h9;simpa using h9)
 have xj:=hid xf;have xl:=hid xi;have ye:=hid xt;have HH:=hid h;obtain⟨xm,hi,hz,xn,xu⟩:=info_parts J2;have xw:Hid (∀W:World,(Instr.makeSlice 84 (J (l:Int)) (J (l:Int))).run prog W=.ok (.slice (zA W.heap.size) l l) (W.alloc (.cells (madeCells #[zC 0,J 0] (l*2)) 92))):=by
  intro W;have hr:=run_make (P:=prog) W 84 92 xm _ underlying84 hi hz .i64 .i64 l l R5 (Int.le_refl _) (by rw [xu];omega) R5;simpa [xn,Value.cells] using hr
 have ys:=xw.out;have yq:(Builtin.copy_ #[84,84] 3 #[.slice (some ⟨W.heap.size+1,0,none⟩) l l,.slice (zA sb) 0 0]).run prog ((W.alloc (.cells #[J 0,J (l:Int),.slice (g.f k).a (g.f k).n (g.f k).c] 163)).alloc (.cells (madeCells #[zC 0,J 0] (l*2)) 92))=.ok (goInt 0) ((W.alloc (.cells #[J 0,J (l:Int),.slice (g.f k).a (g.f k).n (g.f k).c] 163)).alloc (.cells (A7 (List.replicate l (0,0))).toArray 92)):=by
  have h9:=gS (w:=W) (va:=(zA sb)) (vc:=0) (l:=l) (args:=[]) (L4c _) (fun h0=>by simp at h0) (.cells #[J 0,J (l:Int),.slice (g.f k).a (g.f k).n (g.f k).c] 163);simpa using h9
 obtain⟨yj,xq,xp,xd,xg⟩:=info_parts jA;have HI:=hid xq;have HZ:=hid xp;have yb:=hid xd;have ym:=hid xg;have ya:rest.length<=sc:=by omega
 have yd:mb < W.heap.size+1:=by omega
 have xz:cb < W.heap.size+1:=by omega
 have yc:mb < W.heap.size+1+1:=by omega
 have yl:cb < W.heap.size+1+1:=by omega
 have yf:rest.length<=1000:=by omega
 clear h hf hp hl hst hsv xf xv xr xo xk xi g1 g3 hM xt xc e5 yh yi xs hi hz xn xu xq xp xd xg xw xy hsn;subst hcut;go_enter func137,ntmps137;go_wp2_with fail;go_region
 go_wp2_with (at_builtin;go_must (refine A8 _ rfl (.tmp 67) (.tmp 71) 66 rfl 0 86 yj _ 4 64 underlying66 HI.out HZ.out yb.out ym.out rfl R4 (.slice (zA cb) (fs.length+1) cc) (fs.length+1) ((fs++[{ f with sv:=.slice (zA sb) rest.length rest.length,stk:=rest }]).flatMap FrR.cells) rfl (by repeat (first | exact xh.out | refine World.ownsRow.alloc ?_ _ | refine World.ownsRow.drew ?_)) (some ⟨W.heap.size+1+1,0,none⟩) 1 1 [J (k:Int),J 0,.slice (some ⟨W.heap.size+1,0,none⟩) l l,zD] rfl rfl (fun _=>⟨_,rfl,World.news_of_block (cs:=#[J (k:Int),J 0,.slice (some ⟨W.heap.size+1,0,none⟩) l l,zD]) (t:=86) (fr:=(0,0)) (B0 R6)⟩) (by intro u hu;simp at hu;rcases hu with rfl | rfl | rfl | rfl <;> rfl) Q7 R5 R6 ?_))
 intro v4 w4 hown4 hgrow4 hat4;obtain⟨va,vc,yo,_⟩:=C2 hown4;subst yo;have xa:(List.replicate l ((0,0):Val)).length=l:=by simp
 have xe:(((W.setCell ⟨cb,fs.length*4+3,none⟩ (.slice (zA sb) rest.length rest.length)).alloc (Obj.cells #[J 0,J (l:Int),.slice (g.f k).a (g.f k).n (g.f k).c] 163)).alloc (Obj.cells (A7 (List.replicate l (0,0))).toArray 92)).ownsRow 0 92 2 (.slice (some ⟨W.heap.size+1,0,none⟩) l l) (List.replicate l ((0,0):Val)).length (A7 (List.replicate l (0,0))):=by
  have h9:=World.ownsRow_lit (base:=0) (e:=92) (size:=2) ((W.setCell ⟨cb,fs.length*4+3,none⟩ (.slice (zA sb) rest.length rest.length)).alloc (Obj.cells #[J 0,J (l:Int),.slice (g.f k).a (g.f k).n (g.f k).c] 163)) (A7 (List.replicate l (0,0))).toArray l (L4c _) Q7 (by simp only [List.size_toArray];rw [D8,xa]);rw[xa];simpa using h9
 have xb:∀b,(Value.slice (some ⟨W.heap.size+1,0,none⟩) l l).ownBlock=some b->b=W.heap.size+1:=fun b hb=>by
  have:W.heap.size+1=b:=by simpa [Value.ownBlock] using hb
  exact this.symm
 have xx:S6 own g (.slice (some ⟨W.heap.size+1,0,none⟩) l l):=fun b hb=>by
  have:=xb b hb;subst this;refine⟨?_,fun q hq e=>?_,by omega⟩
  ·cases e:own (W.heap.size+1) with
   | none=>rfl
   | some t=>have:=HH.out.lt _ t e;omega
  ·have:=HH.out.pg.blk_lt hq;omega
 obtain⟨q1,q2,q3,q4,q5,q6⟩:=lK (p:=⟨k,0,(.slice (some ⟨W.heap.size+1,0,none⟩) l l),zD,List.replicate l (0,0),[]⟩) (HM.out.same (L3a (L3a (L3b _ _) (L1c _) _) Q2 _)) (L3c (L3a (L3b _ _) (L1c _) _)) (by rw [show ({ R with frs:=fs++[{ f with sv:=.slice (zA sb) rest.length rest.length,stk:=rest }] } : RfR).cv=.slice (zA cb) (fs.length+1) cc by rw [<- xl.out];exact xj.out];exact hgrow4) (by simpa [FrR.cells] using hown4) (fun b hb=>by
  rcases hat4 b hb with e | e
  ·exact L4a (by rw [show ({ R with frs:=fs++[{ f with sv:=.slice (zA sb) rest.length rest.length,stk:=rest }] } : RfR).cv=.slice (zA cb) (fs.length+1) cc by rw [<- xl.out];exact xj.out];exact e)
  ·exact L4b Q9) xe xx (fun b o e hb=>by
  have:=xb b hb;have:=(HH.out.dro b o e).1;omega) ⟨rfl,rfl⟩
 have yv:w4.cell? ⟨mb,4,none⟩=some (.slice (zA cb) (fs.length+1) cc):=by rw [q1];show some R.cv=_;rw [xj.out,xl.out]
 have HT:=hid (((ye.out.touB (L1c _)).trans (bS.of_below ((L3a (L3a (L3b _ _) (L1c _) _) Q2 _).mono R6))).trans (q6 W.heap.size Q2 (fun b hb=>by have:=xb b hb;omega))).touched;have yk:=hid q5;clear q1 q4 q5 q6 hown4 hgrow4 hat4 xe xx;go_wp2_with fail;go_ret;exact⟨rfl,_,⟨_,_,_,by have h9:=yk.out;rw [List.append_assoc] at h9;exact h9⟩,HT.out⟩
theorem a3r {R:RfR} {f:FrR} (h:A9 W own mb g R) (hf:R.frs=fs++[f]) (k l:Nat) (hk:k < g.n) (hgn:g.n<=1000) (hp:(g.f k).p=0) (hl:(g.f k).l=(l:Int)) (hl8:l<=1000) (hd:fs.length+1 < 12) {rest:List Val} (hst:f.stk=rest) (hsn:f.stk.length<=1000) (hsv:f.sv=zD) (hr0:rest=[]) :
  Calls prog 137 #[zB mb,J (k:Int)] W fun e w'=>e=.returned (J 0)/\∃own' cv lv sv,A9 w' own' mb g { R with cv:=cv,frs:=fs++[{ f with sv:=sv,stk:=rest }]++[⟨k,0,lv,zD,List.replicate l (0,0),[]⟩] }/\A2 own W own' w':=by
 have yn:=h.lt _ _ h.me;obtain⟨ca,cc,xc,_,xp⟩:=Row.cells FrR.cells_len h.called;have xh:R.frs.length=fs.length+1:=by rw [hf];simp
 have xs:R.frs[fs.length]?=some f:=by rw [hf];simp
 obtain⟨cb,rfl,ym,yc,xm,xq⟩:=xp R5;have k3:=xq fs.length 3 f _ xs R4 rfl;have yl:=xm (fs.length*4+3);have m4:=h.c4;rw[xc,xh] at m4;obtain⟨g1,g2,g3⟩:=h.pg.2.1 R5;obtain⟨x0,x1,x2⟩:=g3 k hk;rw[hp] at x0;rw[hl] at x1;have m0:=h.c0;rw[g1] at m0;have ya:f.stk.length=rest.length:=by rw [hst]
 rw[hsv] at k3;have yr:(k:Int) < (g.n:Int):=by omega
 have yp:¬(12:Int)<=(fs.length:Int)+1:=by omega
 have xt:Row W own (.stk fs.length) 92 2 zD rest.length (A7 rest):=by
  rw[hr0];exact⟨World.ownsRow_nil _ _ _ _,fun b hb=>by cases hb⟩
 obtain⟨hM,xv⟩:=h.cutTop hf xc xt;have HM:=hid hM;have xg:Hid ((W.setCell ⟨cb,fs.length*4+3,none⟩ zD).ownsRow 0 86 4 (.slice (zA cb) (fs.length+1) cc) (fs.length+1) ((fs++[{ f with sv:=zD,stk:=rest }]).flatMap FrR.cells)):=hid (by
  have h9:=hM.called.1;rw[show ({ R with frs:=fs++[{ f with sv:=zD,stk:=rest }] } : RfR).cv=.slice (zA cb) R.frs.length cc from xc,xh] at h9;simpa using h9)
 have xi:=hid xc;have xj:=hid xh;have ye:=hid xv;have HH:=hid h;obtain⟨xk,hi,hz,xn,xo⟩:=info_parts J2;have xu:Hid (∀W:World,(Instr.makeSlice 84 (J (l:Int)) (J (l:Int))).run prog W=.ok (.slice (zA W.heap.size) l l) (W.alloc (.cells (madeCells #[zC 0,J 0] (l*2)) 92))):=by
  intro W;have hr:=run_make (P:=prog) W 84 92 xk _ underlying84 hi hz .i64 .i64 l l R5 (Int.le_refl _) (by rw [xo];omega) R5;simpa [xn,Value.cells] using hr
 have yk:=xu.out;have yq:(Builtin.copy_ #[84,84] 3 #[.slice (some ⟨W.heap.size+1,0,none⟩) l l,zD]).run prog ((W.alloc (.cells #[J 0,J (l:Int),.slice (g.f k).a (g.f k).n (g.f k).c] 163)).alloc (.cells (madeCells #[zC 0,J 0] (l*2)) 92))=.ok (goInt 0) ((W.alloc (.cells #[J 0,J (l:Int),.slice (g.f k).a (g.f k).n (g.f k).c] 163)).alloc (.cells (A7 (List.replicate l (0,0))).toArray 92)):=by
  have h9:=gS (w:=W) (va:=none) (vc:=0) (l:=l) (args:=[]) (L4c _) (fun h0=>by simp at h0) (.cells #[J 0,J (l:Int),.slice (g.f k).a (g.f k).n (g.f k).c] 163);simpa using h9
 obtain⟨yd,xw,xr,xe,xf⟩:=info_parts jA;have HI:=hid xw;have HZ:=hid xr;have yg:=hid xe;have yb:=hid xf;have xz:mb < W.heap.size+1:=by omega
 have xx:cb < W.heap.size+1:=by omega
 have yh:mb < W.heap.size+1+1:=by omega
 have xy:cb < W.heap.size+1+1:=by omega
 have yi:rest.length<=1000:=by omega
 clear h hf hp hl hst hsv xc xp xq xm xs xh g1 g3 hM xv xt hr0 hi hz xn xo xw xr xe xf xu ya hsn;go_enter func137,ntmps137;go_wp2_with fail;go_region
 go_wp2_with (at_builtin;go_must (refine A8 _ rfl (.tmp 67) (.tmp 71) 66 rfl 0 86 yd _ 4 64 underlying66 HI.out HZ.out yg.out yb.out rfl R4 (.slice (zA cb) (fs.length+1) cc) (fs.length+1) ((fs++[{ f with sv:=zD,stk:=rest }]).flatMap FrR.cells) rfl (by repeat (first | exact xg.out | refine World.ownsRow.alloc ?_ _ | refine World.ownsRow.drew ?_)) (some ⟨W.heap.size+1+1,0,none⟩) 1 1 [J (k:Int),J 0,.slice (some ⟨W.heap.size+1,0,none⟩) l l,zD] rfl rfl (fun _=>⟨_,rfl,World.news_of_block (cs:=#[J (k:Int),J 0,.slice (some ⟨W.heap.size+1,0,none⟩) l l,zD]) (t:=86) (fr:=(0,0)) (B0 R6)⟩) (by intro u hu;simp at hu;rcases hu with rfl | rfl | rfl | rfl <;> rfl) Q7 R5 R6 ?_))
 intro v4 w4 hown4 hgrow4 hat4;obtain⟨va,vc,yj,_⟩:=C2 hown4;subst yj;have xa:(List.replicate l ((0,0):Val)).length=l:=by simp
 have xd:(((W.setCell ⟨cb,fs.length*4+3,none⟩ zD).alloc (Obj.cells #[J 0,J (l:Int),.slice (g.f k).a (g.f k).n (g.f k).c] 163)).alloc (Obj.cells (A7 (List.replicate l (0,0))).toArray 92)).ownsRow 0 92 2 (.slice (some ⟨W.heap.size+1,0,none⟩) l l) (List.replicate l ((0,0):Val)).length (A7 (List.replicate l (0,0))):=by
  have h9:=World.ownsRow_lit (base:=0) (e:=92) (size:=2) ((W.setCell ⟨cb,fs.length*4+3,none⟩ zD).alloc (Obj.cells #[J 0,J (l:Int),.slice (g.f k).a (g.f k).n (g.f k).c] 163)) (A7 (List.replicate l (0,0))).toArray l (L4c _) Q7 (by simp only [List.size_toArray];rw [D8,xa]);rw[xa];simpa using h9
 have xb:∀b,(Value.slice (some ⟨W.heap.size+1,0,none⟩) l l).ownBlock=some b->b=W.heap.size+1:=fun b hb=>by
  have:W.heap.size+1=b:=by simpa [Value.ownBlock] using hb
  exact this.symm
 have xl:S6 own g (.slice (some ⟨W.heap.size+1,0,none⟩) l l):=fun b hb=>by
  have:=xb b hb;subst this;refine⟨?_,fun q hq e=>?_,by omega⟩
  ·cases e:own (W.heap.size+1) with
   | none=>rfl
   | some t=>have:=HH.out.lt _ t e;omega
  ·have:=HH.out.pg.blk_lt hq;omega
 obtain⟨q1,q2,q3,q4,q5,q6⟩:=lK (p:=⟨k,0,(.slice (some ⟨W.heap.size+1,0,none⟩) l l),zD,List.replicate l (0,0),[]⟩) (HM.out.same (L3a (L3a (L3b _ _) (L1c _) _) Q2 _)) (L3c (L3a (L3b _ _) (L1c _) _)) (by rw [show ({ R with frs:=fs++[{ f with sv:=zD,stk:=rest }] } : RfR).cv=.slice (zA cb) (fs.length+1) cc by rw [<- xj.out];exact xi.out];exact hgrow4) (by simpa [FrR.cells] using hown4) (fun b hb=>by
  rcases hat4 b hb with e | e
  ·exact L4a (by rw [show ({ R with frs:=fs++[{ f with sv:=zD,stk:=rest }] } : RfR).cv=.slice (zA cb) (fs.length+1) cc by rw [<- xj.out];exact xi.out];exact e)
  ·exact L4b Q9) xd xl (fun b o e hb=>by
  have:=xb b hb;have:=(HH.out.dro b o e).1;omega) ⟨rfl,rfl⟩
 have yo:w4.cell? ⟨mb,4,none⟩=some (.slice (zA cb) (fs.length+1) cc):=by rw [q1];show some R.cv=_;rw [xi.out,xj.out]
 have HT:=hid (((ye.out.touB (L1c _)).trans (bS.of_below ((L3a (L3a (L3b _ _) (L1c _) _) Q2 _).mono R6))).trans (q6 W.heap.size Q2 (fun b hb=>by have:=xb b hb;omega))).touched;have yf:=hid q5;clear q1 q4 q5 q6 hown4 hgrow4 hat4 xd xl;go_wp2_with fail;go_ret;exact⟨rfl,_,⟨_,_,_,by have h9:=yf.out;rw [List.append_assoc] at h9;exact h9⟩,HT.out⟩
end
section
variable {cb cc mb:Nat} {f:FrR} {fs:List FrR} {g:PgR} {own:Own} {w:World}
theorem A9.cutFrames {R:RfR} (h:A9 w own mb g R) (hf:R.frs=fs++[f]) (hcv:R.cv=.slice (zA cb) R.frs.length cc) :
  A9 (w.setCell ⟨mb,4,none⟩ (.slice (zA cb) fs.length cc)) own mb g { R with cv:=.slice (zA cb) fs.length cc,frs:=fs }/\A2 own w own (w.setCell ⟨mb,4,none⟩ (.slice (zA cb) fs.length cc)):=by
 obtain⟨k1,k2⟩:=h.mach 4 (.slice (zA cb) fs.length cc);have hs:(w.setCell ⟨mb,4,none⟩ (.slice (zA cb) fs.length cc)).heap.size=w.heap.size:=by simp
 have keep:∀t,t≠.mach->∀k,own k=some t->(w.setCell ⟨mb,4,none⟩ (.slice (zA cb) fs.length cc)).heap[k]?=w.heap[k]?/\own k=some t:=fun t ht k e=>⟨k1 t k e ht,e⟩
 have xa:=h.called;rw[hcv] at xa;have xc:=xa.cut (m:=fs.length) (by rw [hf];simp);rw[hf,List.flatMap_append,List.take_append_of_le_length (by rw [aR FrR.cells_len];exact L1c _),List.take_of_length_le (by rw [aR FrR.cells_len];exact L1c _)] at xc;have xb:∀i x,fs[i]?=some x->R.frs[i]?=some x:=fun i x hx=>by
  rw[hf,List.getElem?_append_left (L1a.1 hx).1];exact hx
 refine⟨h.edit (R':={ R with cv:=.slice (zA cb) fs.length cc,frs:=fs }) (by rw [hs];exact L1c _) (fun k t e=>by rw [hs];exact h.lt k t e) h.me (fun k hn _ _=>⟨hn,k2 k hn⟩) (B9 _ R4) ((B9 _ R4).trans h.c1) ((B9 _ R4).trans h.c2) ((B9 _ R4).trans h.c3) (World.cell?_setCell_same _ _ _ h.c4) ((B9 _ R4).trans h.c5) (B9 _ R4) (fun j=>by go_simp;exact h.fz j)
  (h.out.kept (keep _ R6)) (xc.kept (keep _ R6)) (h.things.kept (keep _ R6)) (fun i x hx=>(h.loc i x (xb i x hx)).kept (keep _ R6)) (fun i x hx=>(h.stk i x (xb i x hx)).kept (keep _ R6)) (fun i x hx=>(h.fld i x hx).kept (keep _ R6)) (fun b o e=>(h.dro b o e).2) rfl rfl rfl,⟨rfl,rfl,rfl,by simp,fun k _ hn=>k2 k hn,fun _ _=>rfl⟩⟩
theorem A9.growTop {w':World} {R:RfR} {f':FrR} (h:A9 w own mb g R) (hf:R.frs=fs++[f]) (hcv:R.cv=.slice (zA cb) R.frs.length cc) (hlv:f'.lv=f.lv) (hloc:f'.loc=f.loc) (hsize:w.heap.size<=w'.heap.size) (hk:∀k,k < w.heap.size->k≠cb->own k≠some (.stk fs.length)->w'.heap[k]?=w.heap[k]?)
  (hrow:w'.ownsRow 0 86 4 (.slice (zA cb) R.frs.length cc) R.frs.length ((fs++[f']).flatMap FrR.cells)) (hst:w'.ownsRow 0 92 2 f'.sv f'.stk.length (A7 f'.stk)) (hon:E7 w own f'.sv (.stk fs.length)) :
  A9 w' (own.upd f'.sv.ownBlock (.stk fs.length)) mb g { R with frs:=fs++[f'] }:=by
 have xd:=h.lt;have xa:own cb=some .called:=h.called.2 cb (by rw [hcv];rfl);have xc:∀k,k < w.heap.size->(own.upd f'.sv.ownBlock (.stk fs.length)) k=own k:=fun k hk'=>Own.upd_old hon hk'
 have keep:∀t,t≠.called->t≠.stk fs.length->∀k,own k=some t->w'.heap[k]?=w.heap[k]?/\(own.upd f'.sv.ownBlock (.stk fs.length)) k=some t:=fun t ht ht2 k hk'=>⟨hk k (xd k t hk') (fun e=>by rw [e,xa] at hk';exact ht (L5b hk').symm) (by rw [hk'];exact fun e=>ht2 (L5b e)),by rw [xc k (xd k t hk')];exact hk'⟩
 have xe:=(keep .mach R6 R6 mb h.me).1;have kc:∀i,w'.cell? ⟨mb,i,none⟩=w.cell? ⟨mb,i,none⟩:=fun i=>L0b (w:=w) (a:=⟨mb,i,none⟩) xe
 have xg:(fs++[f']).length=R.frs.length:=by rw [hf];simp
 have xf:R.frs[fs.length]?=some f:=by rw [hf];simp
 have xb:∀i x,(fs++[f'])[i]?=some x->(i=fs.length/\x=f')\/(i < fs.length/\R.frs[i]?=some x):=fun i x hx=>by
  rcases Nat.lt_or_ge i fs.length with hl | hl
  ·rw [List.getElem?_append_left hl] at hx
   exact L4b ⟨hl,by rw [hf,List.getElem?_append_left hl];exact hx⟩
  ·rw [List.getElem?_append_right hl] at hx
   have:i - fs.length=0:=by
    have:=(L1a.1 hx).1;simp at this;omega
   rw[this] at hx;exact L4a ⟨by omega,by simpa using hx.symm⟩
 refine h.edit (R':={ R with frs:=fs++[f'] }) hsize (Own.upd_lt xd hsize hst) (by rw [xc _ (xd _ _ h.me)];exact h.me) (fun k hn hks _=>⟨by rw [xc k hks];exact hn,hk k hks (fun e=>by rw [e,xa] at hn;cases hn) (by rw [hn];simp)⟩) (kc 0) ((kc 1).trans h.c1) ((kc 2).trans h.c2) ((kc 3).trans h.c3) ((kc 4).trans h.c4) ((kc 5).trans h.c5) (kc 6) (fun j=>by rw [L0c (w:=w) (a:=⟨mb,j,none⟩) xe];exact h.fz j)
  (h.out.kept (keep _ R6 R6)) ⟨?_,fun b hb=>?_⟩ (h.things.kept (keep _ R6 R6)) (fun i x hx=>?_) (fun i x hx=>?_) (fun i x hx=>(h.fld i x hx).kept (keep _ R6 R6)) (fun b o e=>by rw [xc b (h.dro b o e).1];exact (h.dro b o e).2) rfl rfl rfl
 ·rw [show ({ R with frs:=fs++[f'] } : RfR).frs.length=R.frs.length from xg]
  show w'.ownsRow 0 86 4 R.cv R.frs.length _;rw[hcv];exact hrow
 ·have:=h.called.2 b hb
  rw[xc b (xd b _ this)];exact this
 ·rcases xb i x hx with ⟨rfl,rfl⟩ | ⟨hi,hx⟩
  ·rw [hlv,hloc]
   exact (h.loc _ f xf).kept (keep _ R6 R6)
  ·exact (h.loc i x hx).kept (keep _ R6 R6)
 ·rcases xb i x hx with ⟨rfl,rfl⟩ | ⟨hi,hx⟩
  ·exact ⟨hst,fun b hb=>by simp [Own.upd,hb]⟩
  ·exact (h.stk i x hx).kept (keep _ R6 Q9)
theorem a4B {X w4:World} {R:RfR} {f:FrR} {x:Val} {va:Option Addr} {vc:Nat} (h:A9 w own mb g R) (hf:R.frs=fs++[f]) (hcv:R.cv=.slice (zA cb) R.frs.length cc) (hX:L0d w X) (hgrow:X.grownBy w4 f.sv.ownBlock) (hown:w4.ownsRow 0 92 2 (.slice va (f.stk.length+1) vc) (f.stk.length+1) (A7 f.stk++O9 x)) (hat:∀b,(Value.slice va (f.stk.length+1) vc).ownBlock=some b->f.sv.ownBlock=some b\/w.heap.size<=b) :
  w4.cell? ⟨mb,4,none⟩=some R.cv/\mb < w4.heap.size/\cb < w4.heap.size/\w4.cell? ⟨cb,fs.length*4+3,none⟩=some f.sv/\w4.cell? ⟨cb,fs.length*4+1,none⟩=some (J (f.pc:Int))/\(∀j,w4.frozen? ⟨cb,j,none⟩=false)/\cb≠mb /\
   A9 ((w4.setCell ⟨cb,fs.length*4+3,none⟩ (.slice va (f.stk.length+1) vc)).setCell ⟨cb,fs.length*4+1,none⟩ (J ((f.pc:Int)+1))) (own.upd (Value.slice va (f.stk.length+1) vc).ownBlock (.stk fs.length)) mb g { R with frs:=fs++[{ f with pc:=f.pc+1,sv:=.slice va (f.stk.length+1) vc,stk:=f.stk++[x] }] } /\
   A2 own w (own.upd (Value.slice va (f.stk.length+1) vc).ownBlock (.stk fs.length)) ((w4.setCell ⟨cb,fs.length*4+3,none⟩ (.slice va (f.stk.length+1) vc)).setCell ⟨cb,fs.length*4+1,none⟩ (J ((f.pc:Int)+1))):=by
 have xj:=h.lt _ _ h.me;have xa:own cb=some .called:=h.called.2 cb (by rw [hcv];rfl);have xc:=h.lt _ _ xa;have xq:cb≠mb:=fun e=>by rw [e,h.me] at xa;cases xa
 have xf:R.frs[fs.length]?=some f:=by rw [hf];simp
 have xl:∀b,f.sv.ownBlock=some b->own b=some (.stk fs.length):=(h.stk fs.length f xf).2
 have xd:w.heap.size<=w4.heap.size:=L5a hX.size hgrow.size;have xb:∀k,k < w.heap.size->own k≠some (.stk fs.length)->w4.heap[k]?=w.heap[k]?:=fun k hk ho=>by
  rw[hgrow.block k (L0a hk hX.size) (fun e=>ho (xl k e.symm)),hX.block k hk]
 have xe:=xb cb xc (by rw [xa];simp);have xp:=xb mb xj (by rw [h.me];simp);have xi:E7 w own (.slice va (f.stk.length+1) vc) (.stk fs.length):=fun b hb=>by
  rcases hat b hb with e | e
  ·exact L4a (xl b e)
  ·exact L4b e
 have xm:(Value.slice va (f.stk.length+1) vc).ownBlock≠some cb:=fun e=>by
  rcases xi cb e with e | e
  ·rw [xa] at e;cases e
  ·omega
 have hl:w4.ownsRow 0 86 4 (.slice (zA cb) R.frs.length cc) R.frs.length (R.frs.flatMap FrR.cells):=by
  have h9:=h.called.1;rw[hcv] at h9;exact A6 h9 fun b hb=>by
   obtain rfl:cb=b:=by simpa [Value.ownBlock] using hb
   exact xe
 have hr:=(World.ownsRow.stored (World.ownsRow.stored hl (fs.length*4+3) (.slice va (f.stk.length+1) vc)).1 (fs.length*4+1) (J ((f.pc:Int)+1))).1;rw[<- I7 (c:=FrR.cells) FrR.cells_len (l:=R.frs) (i:=fs.length) (j:=3) (x:=f) (y:={ f with sv:=.slice va (f.stk.length+1) vc,stk:=f.stk++[x] }) (u:=.slice va (f.stk.length+1) vc) xf R5 rfl,
  <- I7 (c:=FrR.cells) FrR.cells_len (l:=R.frs.set fs.length { f with sv:=.slice va (f.stk.length+1) vc,stk:=f.stk++[x] }) (i:=fs.length) (j:=1) (x:={ f with sv:=.slice va (f.stk.length+1) vc,stk:=f.stk++[x] }) (y:={ f with pc:=f.pc+1,sv:=.slice va (f.stk.length+1) vc,stk:=f.stk++[x] }) (u:=J ((f.pc:Int)+1)) (by rw [List.getElem?_set_self (by rw [hf];simp)]) R5 (by simp [FrR.cells]),List.set_set] at hr
 have xh:R.frs.set fs.length { f with pc:=f.pc+1,sv:=.slice va (f.stk.length+1) vc,stk:=f.stk++[x] }=fs++[{ f with pc:=f.pc+1,sv:=.slice va (f.stk.length+1) vc,stk:=f.stk++[x] }]:=by rw [hf];simp
 rw[xh] at hr;have hF:∀k,k≠cb->((w4.setCell ⟨cb,fs.length*4+3,none⟩ (.slice va (f.stk.length+1) vc)).setCell ⟨cb,fs.length*4+1,none⟩ (J ((f.pc:Int)+1))).heap[k]?=w4.heap[k]?:=fun k hk=>by
  rw[heap_setCell_other _ _ _ _ hk,heap_setCell_other _ _ _ _ hk]
 obtain⟨a',xw,xn,_,xs⟩:=Row.cells FrR.cells_len h.called;have xg:0 < R.frs.length:=by rw [hf];simp
 obtain⟨b',e',xv,_,xu,xk⟩:=xs xg;have xt:b'=cb:=by
  rw[xn,e'] at hcv
  injection hcv with q _ _
  injection q with q
  injection q with q
 subst xt;have xo:w4.cell? ⟨b',fs.length*4+3,none⟩=some f.sv:=by rw [L0b (w:=w) (a:=⟨b',fs.length*4+3,none⟩) xe];exact xk fs.length 3 f _ xf R4 rfl
 have xr:w4.cell? ⟨b',fs.length*4+1,none⟩=some (J (f.pc:Int)):=by rw [L0b (w:=w) (a:=⟨b',fs.length*4+1,none⟩) xe];exact xk fs.length 1 f _ xf R4 rfl
 refine⟨by rw [L0b (w:=w) (a:=⟨mb,4,none⟩) xp];exact h.c4,L0a xj xd,L0a xc xd,xo,xr,fun j=>by rw [L0c (w:=w) (a:=⟨b',j,none⟩) xe];exact xu j,xq,?_,?_⟩
 ·exact h.growTop (f':={ f with pc:=f.pc+1,sv:=.slice va (f.stk.length+1) vc,stk:=f.stk++[x] }) hf hcv rfl rfl (by simpa using xd) (fun k hk hne ho=>(hF k hne).trans (xb k hk ho)) hr
   (by
    have h9:=ownsRow_setCell_other (a:=⟨b',fs.length*4+1,none⟩) (ownsRow_setCell_other (a:=⟨b',fs.length*4+3,none⟩) hown xm (.slice va (f.stk.length+1) vc)) xm (J ((f.pc:Int)+1));rw[List.length_append,J7];simpa [A7] using h9) xi
 ·refine ⟨hgrow.os.trans hX.os,hgrow.tape.trans hX.tape,hgrow.output.trans hX.output,by simpa using xd,fun k hk hn=>?_,fun k hk=>Own.upd_old xi hk⟩
  rw[hF k (fun e=>by rw [e,xa] at hn;cases hn)];exact xb k hk (by rw [hn];simp)
end
section
variable {W:World} {f:FrR} {fs:List FrR} {g:PgR} {mb:Nat} {own:Own}
theorem a0F {R:RfR} (h:A9 W own mb g R) (hf:R.frs=fs++[f]) (h0:fs=[]) {rest:List Val} {x:Val} (hst:f.stk=rest++[x]) (hsn:f.stk.length<=1000) :
  Calls prog 138 #[zB mb] W fun e w'=>e=.returned (J 1)/\∃cv,A9 w' own mb g { R with cv:=cv,frs:=[] }/\A2 own W own w':=by
 have xu:=h.lt _ _ h.me;obtain⟨ca,cc,xb,xq,xg⟩:=Row.cells FrR.cells_len h.called;have xd:R.frs.length=fs.length+1:=by rw [hf];simp
 have xc:R.frs[fs.length]?=some f:=by rw [hf];simp
 obtain⟨cb,rfl,xs,xr,xp,xj⟩:=xg R5;have k3:=xj fs.length 3 f _ xc R4 rfl;have m4:=h.c4;rw[xb,xd] at m4;obtain⟨sa,sc,xi,xv,xh⟩:=(h.stk fs.length f xc).vals;have xf:f.stk.length=rest.length+1:=by rw [hst];simp
 obtain⟨sb,rfl,xt,xa⟩:=xh R5;obtain⟨x0,x1⟩:=xa rest.length x (by rw [hst];simp);rw[xi,xf] at k3;obtain⟨hM,xm⟩:=h.cutFrames hf xb;have HM:=hid hM;have xl:=hid xm;have HH:=hid h;have xw:=hid xb;have xx:=hid xd;have z4:=h.fz 4;have xe:fs.length<=cc:=by omega
 have xo:rest.length+1<=1000:=by omega
 subst h0;obtain⟨xk,xn⟩:=x;simp only[List.length_nil,Nat.zero_mul,Nat.zero_add] at m4 k3 x0 x1 HM xl xe;clear h hf hst xi xb xg xj xp xc xd hM xm xh xa xf hsn;go_enter func138,ntmps138;go_wp2_with fail;go_ret;exact⟨rfl,_,HM.out.same P4,xl.out.trans (A2.of_below P4)⟩
theorem a5N {R:RfR} {fs':List FrR} {c:FrR} (h:A9 W own mb g R) (hf:R.frs=fs++[f]) (hfs:fs=fs'++[c]) {rest:List Val} {x:Val} (hst:f.stk=rest++[x]) (hsn:f.stk.length<=1000) (hcn:c.stk.length<=1000) (hd:fs.length<=1000) (hpc:c.pc<=1000) :
  Calls prog 138 #[zB mb] W fun e w'=>e=.returned (J 0)/\∃own' cv sv,A9 w' own' mb g { R with cv:=cv,frs:=fs'++[{ c with pc:=c.pc+1,sv:=sv,stk:=c.stk++[x] }] }/\A2 own W own' w':=by
 have yt:=h.lt _ _ h.me;obtain⟨ca,cc,xh,yj,xv⟩:=Row.cells FrR.cells_len h.called;have xp:R.frs.length=fs.length+1:=by rw [hf];simp
 have xm:R.frs[fs.length]?=some f:=by rw [hf];simp
 obtain⟨cb,rfl,yz,xe,xi,xg⟩:=xv R5;have k3:=xg fs.length 3 f _ xm R4 rfl;have m4:=h.c4;rw[xh,xp] at m4;obtain⟨sa,sc,xr,za,xw⟩:=(h.stk fs.length f xm).vals;have xy:f.stk.length=rest.length+1:=by rw [hst];simp
 obtain⟨sb,rfl,ys,xd⟩:=xw R5;obtain⟨x0,x1⟩:=xd rest.length x (by rw [hst];simp);rw[xr,xy] at k3;obtain⟨hM,xt⟩:=h.cutFrames hf xh;have HM:=hid hM;have xj:=hid xt;have HH:=hid h;have yn:=hid xh;have yw:=hid xp;have z4:=h.fz 4;have xl:fs.length<=cc:=by omega
 have ye:rest.length+1<=1000:=by omega
 have xb:fs.length=fs'.length+1:=by rw [hfs];simp
 have xf:R.frs[fs'.length]?=some c:=by rw [hf,hfs];simp
 have j3:=xg fs'.length 3 c _ xf R4 rfl;have j1:=xg fs'.length 1 c _ xf R4 rfl;have yy:=xi (fs'.length*4+3);have yr:=xi (fs'.length*4+1);obtain⟨ta,tc,xa,_,_⟩:=(h.stk fs'.length c xf).vals;have xx:Hid ((W.setCell ⟨mb,4,none⟩ (.slice (zA cb) fs.length cc)).ownsRow 0 92 2 (.slice ta c.stk.length tc) c.stk.length (A7 c.stk)):=hid (by
  have h9:=(hM.stk fs'.length c (by show fs[fs'.length]?=_;rw [hfs];simp)).1;rwa [xa] at h9)
 rw[xa] at j3;have xc:=hid xa;have ya:Hid (({ R with cv:=.slice (zA cb) fs.length cc,frs:=fs } : RfR).frs=fs'++[c]):=hid hfs;have yc:=hid xb;obtain⟨xo,hi,hz,xq,xu⟩:=info_parts J2;have HI:=hid hi;have HZ:=hid hz;have yd:=hid xq;have yk:=hid xu;obtain⟨xk,xn⟩:=x;simp only at x0 x1;rw[xb] at m4 k3 xl hd;have yu:(fs'.length:Int) < (fs'.length:Int)+1:=by omega
 have yh:(0:Int)<=(fs'.length:Int):=by omega
 have yg:((fs'.length:Int)+1 == 0)=false:=L2c.2 R5;have yx:IntKind.i64.wrap ((fs'.length:Int)+1 - 1)=(fs'.length:Int):=by rw [Go.IntWalk.i64_in _ R5];omega
 have yp:IntKind.i64.wrap (fs'.length:Int)=(fs'.length:Int):=Go.IntWalk.i64_in _ R5;have yi:cb≠mb:=fun e=>by rw [e,h.me] at xe;cases xe
 have ym:mb≠cb:=Ne.symm yi;have yf:mb < W.heap.size+1:=by omega
 have yb:cb < W.heap.size+1:=by omega
 rw[xb] at HM xj xx ya;clear h hf hfs hst xr xh xv xg xi xm xp hM xt xw xd xy hsn xa xf hi hz xq xu xb;go_enter func138,ntmps138;go_wp2_with fail;go_region_law ((refine J0 rfl (.tmp 51) (.tmp 53) 84 rfl 0 92 xo _ 2 16 underlying84 HI.out HZ.out yd.out yk.out rfl R4 (.slice ta c.stk.length tc) c.stk.length (A7 c.stk) Q3 (by repeat (first | exact xx.out | refine World.ownsRow.alloc ?_ _ | refine World.ownsRow.drew ?_)) _ 1 1 [zC xk,J xn] Q3 rfl (fun _=>⟨_,rfl,World.news_of_block (cs:=#[zC xk,J xn]) (t:=92) (fr:=(0,0)) (by first | exact B0 R6 | exact K9 R6)⟩) (by simp [Value.oneCell']) Q7 R5 (L4c _) ?_;intro v4 w4 hown4 hgrow4 hat4;obtain ⟨va,vc,yl,_⟩:=C2 hown4;subst yl;rw [<- xc.out] at hgrow4;obtain ⟨q1,q2,q3,q4,q5,q6,q7,q8,q9⟩:=a4B (cb:=cb) (cc:=cc) (x:=(xk,xn)) HM.out ya.out (by show Value.slice _ _ _=_;rw [yc.out]) P4 hgrow4 (by simpa [O9] using hown4) (fun b hb=>(hat4 b hb).elim (fun e=>L4a (by rw [xc.out];exact e)) (fun e=>L4b (by rw [e];first | (simp;done) | (simp;omega))));have xz:=(hid q8);have xs:=(hid q9);have yq:=q6 (fs'.length*4+3);have yo:=q6 (fs'.length*4+1);have yv:w4.cell? ⟨mb,4,none⟩=some (.slice (zA cb) (fs'.length+1) cc):=q1;rw [xc.out] at q4;clear q1 q6 q8 q9))
 all_goals
  go_wp2_with fail;go_ret
  first | exact ⟨rfl,_,⟨_,_,xz.out⟩,xj.out.trans xs.out⟩ | exact ⟨rfl,_,_,_,xz.out,xj.out.trans xs.out⟩
end
end Go.Proofs.YtbkmgoffiigdbaaGreatDoor
