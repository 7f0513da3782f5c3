import Derived.Test.YtbkmgoffiigdbaaGreatDoorVAg
namespace Go.Proofs.YtbkmgoffiigdbaaGreatDoor
open Go.RowKit Go.Sort Go.Proofs.Tryz
set_option maxHeartbeats 2000000
set_option maxRecDepth 100000
section
variable {fs:List FrR} {g:PgR} {lb lc mb:Nat} {own:Own} {w:World}
theorem A9.setLoc {w':World} {R:RfR} {f:FrR} {l:List Val} (h:A9 w own mb g R) (hf:R.frs=fs++[f]) (hlv:f.lv=.slice (zA lb) f.loc.length lc) (holb:own lb=some (.loc fs.length)) (hsize:w.heap.size=w'.heap.size) (hk:∀k,k≠lb->w'.heap[k]?=w.heap[k]?) (hlen:l.length=f.loc.length)
  (hrow:w'.ownsRow 0 92 2 (.slice (zA lb) f.loc.length lc) f.loc.length (A7 l)):A9 w' own mb g { R with frs:=fs++[{ f with loc:=l }] }:=by
 have keep:∀t,t≠.loc fs.length->∀k,own k=some t->w'.heap[k]?=w.heap[k]?/\own k=some t:=fun t ht k hk'=>⟨hk k (fun e=>by rw [e,holb] at hk';exact ht (L5b hk').symm),hk'⟩
 have xb:=(keep .mach R6 mb h.me).1;have kc:∀i,w'.cell? ⟨mb,i,none⟩=w.cell? ⟨mb,i,none⟩:=fun i=>L0b (w:=w) (a:=⟨mb,i,none⟩) xb
 have xc:(fs++[{ f with loc:=l }]).flatMap FrR.cells=R.frs.flatMap FrR.cells:=by
  rw[hf,List.flatMap_append,List.flatMap_append];rfl
 have xe:(fs++[{ f with loc:=l }]).length=R.frs.length:=by rw [hf];simp
 have xa:∀i x,(fs++[{ f with loc:=l }])[i]?=some x->(i=fs.length/\x={ f with loc:=l })\/(i < fs.length/\R.frs[i]?=some x):=fun i x hx=>by
  rcases Nat.lt_or_ge i fs.length with hl | hl
  ·rw [List.getElem?_append_left hl] at hx
   exact L4b ⟨hl,by rw [hf,List.getElem?_append_left hl];exact hx⟩
  ·rw [List.getElem?_append_right hl] at hx
   have:i - fs.length=0:=by
    have:=(L1a.1 hx).1;simp at this;omega
   rw[this] at hx;exact L4a ⟨by omega,by simpa using hx.symm⟩
 have xd:R.frs[fs.length]?=some f:=by rw [hf];simp
 refine h.edit (R':={ R with frs:=fs++[{ f with loc:=l }] }) (Nat.le_of_eq hsize) (fun k t hk'=>by rw [<- hsize];exact h.lt k t hk') h.me (fun k hn _ _=>⟨hn,hk k fun e=>by rw [e,holb] at hn;cases hn⟩) (kc 0) ((kc 1).trans h.c1) ((kc 2).trans h.c2) ((kc 3).trans h.c3) ((kc 4).trans h.c4) ((kc 5).trans h.c5) (kc 6) (fun j=>by rw [L0c (w:=w) (a:=⟨mb,j,none⟩) xb];exact h.fz j)
  (h.out.kept (keep _ R6)) ?_ (h.things.kept (keep _ R6)) (fun i x hx=>?_) (fun i x hx=>?_) (fun i x hx=>(h.fld i x hx).kept (keep _ R6)) (fun b o e=>(h.dro b o e).2) rfl rfl rfl
 ·have:=h.called.kept (own':=own) (w':=w') (keep _ R6)
  show Row w' own .called 86 4 R.cv (fs++[{ f with loc:=l }]).length ((fs++[{ f with loc:=l }]).flatMap FrR.cells);rw[xc,xe];exact this
 ·rcases xa i x hx with ⟨rfl,rfl⟩ | ⟨hi,hx⟩
  ·show Row w' own (.loc fs.length) 92 2 f.lv l.length (A7 l)
   rw[hlv,hlen]
   exact⟨hrow,fun b hb=>by obtain rfl:lb=b:=by simpa [Value.ownBlock] using hb
                           exact holb⟩
  ·exact (h.loc i x hx).kept (keep _ Q9)
 ·rcases xa i x hx with ⟨rfl,rfl⟩ | ⟨hi,hx⟩
  ·exact (h.stk _ f xd).kept (keep _ R6)
  ·exact (h.stk i x hx).kept (keep _ R6)
theorem A9.putLoc {R:RfR} {f:FrR} {i:Nat} {x y:Val} (h:A9 w own mb g R) (hf:R.frs=fs++[f]) (hi:f.loc[i]?=some x) (hlv:f.lv=.slice (zA lb) f.loc.length lc) (holb:own lb=some (.loc fs.length)) :
  A9 ((w.setCell ⟨lb,i*2,none⟩ (zC y.1)).setCell ⟨lb,i*2+1,none⟩ (J y.2)) own mb g { R with frs:=fs++[{ f with loc:=f.loc.set i y }] } /\
   A2 own w own ((w.setCell ⟨lb,i*2,none⟩ (zC y.1)).setCell ⟨lb,i*2+1,none⟩ (J y.2)):=by
 have hl:=h.loc fs.length f (by rw [hf];simp);rw[hlv] at hl;have hr:=(World.ownsRow.stored (World.ownsRow.stored hl.1 (i*2) (zC y.1)).1 (i*2+1) (J y.2)).1;rw[<- eL hi] at hr;have xa:∀k,k≠lb->((w.setCell ⟨lb,i*2,none⟩ (zC y.1)).setCell ⟨lb,i*2+1,none⟩ (J y.2)).heap[k]?=w.heap[k]?:=fun k hk=>by
  rw[heap_setCell_other _ _ _ _ hk,heap_setCell_other _ _ _ _ hk]
 exact⟨h.setLoc hf hlv holb R6 xa R6 hr,⟨rfl,rfl,rfl,by simp,fun k hk hno=>xa k (fun e=>by rw [e,holb] at hno;cases hno),fun _ _=>rfl⟩⟩
end
section
variable {W:World} {la:Option Addr} {lc m mb nl sb sc:Nat}
theorem a6c (fn:Nat) (x:Val) (b:Nat) (pc:Nat) (hpc:pc<=1000) (hsb:sb < W.heap.size) (x0:W.cell? ⟨sb,m*2,none⟩=some (zC x.1)) (x1:W.cell? ⟨sb,m*2+1,none⟩=some (J x.2)) (hm:m<=1000) {own:Own} {g:PgR} {R:RfR} {fs:List FrR} {f:FrR} (h:A9 W own mb g R) (hf:R.frs=fs++[f]) {z:Val} (hz:f.loc[b]?=some z) (hlv:f.lv=.slice la nl lc) (hnl:nl=f.loc.length) (hln:nl<=1000) (hsl:∀k,own k=some (.loc fs.length)->sb≠k) :
  Calls prog 185 #[zB mb,.agg #[J 3,J (b:Int)],J (pc:Int),.agg #[J (fn:Int),J (pc:Int),.slice la nl lc,.slice (zA sb) (m+1) sc]] W fun e w'=>K8 own mb g (fun R'=>R'={ R with frs:=fs++[{ f with loc:=f.loc.set b x }] }) 1 [] ((pc:Int)+1) 0 W e w':=by
 have xj:=(fun (_:m<=1000)=>hpc) hm;obtain⟨xk,xn⟩:=x;simp only at x0 x1;obtain⟨xr,xm,xt,xo⟩:=W9 (show sb < W.heap.size by omega);have xw:=(L1a.1 hz).1;have xu:(b:Int) < (nl:Int):=(fun (_:nl<=1000)=>by omega) hln;have xa:=h.loc fs.length f (by rw [hf];simp);obtain⟨xz,xv,e1,_,xf⟩:=xa.vals;rw[hlv,hnl] at e1;obtain⟨lb,xe,xx,xg⟩:=xf R5;have xc:la=some ⟨lb,0,none⟩:=by
  injection e1 with q1 q2 q3
  rw[q1];exact xe
 subst xc;obtain⟨f0,f1⟩:=xg b z hz;have xb:own lb=some (.loc fs.length):=xa.2 lb (by rw [hlv];rfl);have xd:∀q,W.frozen? ⟨lb,q,none⟩=false:=fun q=>tY xa.1 (by rw [hlv];rfl) q
 have z0:=xd (b*2);have z1:=xd (b*2+1);have xy:sb≠lb:=hsl lb xb;have HA:=hid h;have HF:=hid hf;have HZ:=hid hz;have xi:Hid (f.lv=.slice (zA lb) f.loc.length lc):=hid (by rw [hlv,hnl]);have xs:=hid xb;clear h hf hz hlv hnl xa xf xg xd xb hsl e1 xe;obtain⟨xq,xh,xl,xp⟩:=W9 (show lb < W.heap.size by omega);go_enter func185,ntmps185;go_wp2_with fail;go_region
 go_wp2_with (go_at_call 222;refine CE (W6 _ _ _ hpc) ?_)
 obtain⟨hM,hT⟩:=HA.out.putLoc (y:=(xk,xn)) HF.out HZ.out xi.out xs.out;refine bodyPost_ret (v:=.agg #[J 1,zD,J ((pc:Int)+1),J 0]) (by simp [results,results185,go_sem]) rfl ?_;exact⟨own,_,none,0,rfl,hM.same P4,rfl,hT.trans (A2.of_below P4),B8 _ _,fun b hb=>by cases hb⟩
theorem qU (fn:Nat) (x:Val) (a:Int) (pc:Nat) (hpc:pc<=1000) (hsb:sb < W.heap.size) (x0:W.cell? ⟨sb,m*2,none⟩=some (zC x.1)) (x1:W.cell? ⟨sb,m*2+1,none⟩=some (J x.2)) (hm:m<=1000) (h1:x.1≠1) :
  Calls prog 185 #[zB mb,.agg #[J 26,J a],J (pc:Int),.agg #[J (fn:Int),J (pc:Int),.slice la nl lc,.slice (zA sb) (m+1) sc]] W fun e w'=>D2 0 [] 0 2 W e w':=by
 have xf:=(fun (_:m<=1000)=>hpc) hm;obtain⟨xk,xn⟩:=x;simp only at x0 x1;obtain⟨xa,xb,xe,xc⟩:=W9 (show sb < W.heap.size by omega);have xd:¬xk=1:=h1;have xg:(xk == 1)=false:=L2c.2 xd;clear h1;go_enter func185,ntmps185;go_wp2_with (go_at_call 218;refine CE (B4 _ _) ?_)
 refine bodyPost_ret (v:=.agg #[J 0,zD,J 0,J 2]) (by simp [results,results185,go_sem]) rfl ?_;exact⟨none,0,rfl,P4,B8 _ _⟩
theorem qT (fn:Nat) (x:Val) (a:Int) (pc:Nat) (hpc:pc<=1000) (hsb:sb < W.heap.size) (x0:W.cell? ⟨sb,m*2,none⟩=some (zC x.1)) (x1:W.cell? ⟨sb,m*2+1,none⟩=some (J x.2)) (hm:m<=1000) {own:Own} {g:PgR} {R:RfR} (h:A9 W own mb g R) (h1:x.1=1) (ho:40<=R.out.length) (ho2:R.out.length<=1000) :
  Calls prog 185 #[zB mb,.agg #[J 26,J a],J (pc:Int),.agg #[J (fn:Int),J (pc:Int),.slice la nl lc,.slice (zA sb) (m+1) sc]] W fun e w'=>D2 0 [] 0 7 W e w':=by
 have xd:=(fun (_:m<=1000)=>hpc) hm;obtain⟨xk,xn⟩:=x;simp only at x0 x1;obtain⟨xi,xf,xl,xg⟩:=W9 (show sb < W.heap.size by omega);have xh:xk=1:=h1;subst xh;have xm:=h.lt _ _ h.me;obtain⟨oa,oc,xa,_⟩:=C2 h.out.1;have m3:=h.c3;rw[xa] at m3;have xo:(40:Int)<=(R.out.length:Int):=by omega
 generalize R.out.length=no at *
 clear h h1 xa ho;obtain⟨xe,xj,xb,xc⟩:=W9 (show mb < W.heap.size by omega);go_enter func185,ntmps185;go_wp2_with (go_at_call 218;refine CE (B4 _ _) ?_)
 refine bodyPost_ret (v:=.agg #[J 0,zD,J 0,J 7]) (by simp [results,results185,go_sem]) rfl ?_;exact⟨none,0,rfl,P4,B8 _ _⟩
end
section
variable {M W w:World} {R:RfR} {g:PgR} {mb:Nat} {own:Own}
theorem A9.setOut {w':World} {R:RfR} {v:Value} {l:List Int} (h:A9 w own mb g R) (hsize:w.heap.size<=w'.heap.size)
  (hk:∀k,k < w.heap.size->k≠mb->own k≠some .out->w'.heap[k]?=w.heap[k]?)
  (hc:∀j,j≠3->w'.cell? ⟨mb,j,none⟩=w.cell? ⟨mb,j,none⟩) (hc3:w'.cell? ⟨mb,3,none⟩=some v) (hfz:∀j,w'.frozen? ⟨mb,j,none⟩=false)
  (hrow:w'.ownsRow 0 3 1 v l.length (l.map fun n=>J n)) (hon:E7 w own v .out) :
  A9 w' (own.upd v.ownBlock .out) mb g { R with ov:=v,out:=l }:=by
 have xa:=h.lt;have keep:∀t,t≠.mach->t≠.out->∀k,own k=some t->w'.heap[k]?=w.heap[k]?:=fun t h1 h2 k hk' =>
  hk k (xa k t hk') (fun e=>by rw [e,h.me] at hk';exact h1 (L5b hk').symm) (by rw [hk'];exact fun e=>h2 (L5b e))
 have xb:∀k,k < w.heap.size->own k=none->w'.heap[k]?=w.heap[k]?:=fun k hk1 hk2=>hk k hk1 (fun e=>by rw [e,h.me] at hk2;cases hk2) (by rw [hk2];simp)
 exact h.edit (R':={ R with ov:=v,out:=l }) hsize (Own.upd_lt xa hsize hrow) (by rw [Own.upd_old hon (xa mb _ h.me)];exact h.me) (fun k hn hks _=>⟨by rw [Own.upd_old hon hks];exact hn,xb k hks hn⟩) (hc 0 R4) ((hc 1 R4).trans h.c1) ((hc 2 R4).trans h.c2) hc3 ((hc 4 R4).trans h.c4) ((hc 5 R4).trans h.c5) (hc 6 R4) hfz
  ⟨hrow,fun b hb=>by simp [Own.upd,hb]⟩ (h.called.upd xa hon (keep _ R6 R6)) (h.things.upd xa hon (keep _ R6 R6)) (fun i x hx=>(h.loc i x hx).upd xa hon (keep _ R6 R6)) (fun i x hx=>(h.stk i x hx).upd xa hon (keep _ R6 R6)) (fun i x hx=>(h.fld i x hx).upd xa hon (keep _ R6 R6)) (fun b o e=>by rw [Own.upd_old hon (h.dro b o e).1];exact (h.dro b o e).2) rfl rfl rfl
theorem A9.off {F:World} (hM:A9 M own mb g R) (D:Nat) (hD:own D=none) (hDp:¬g.blk D) (hD0:D≠0) (hDd:∀o,R.da≠some ⟨D,o,none⟩) (hs:M.heap.size<=F.heap.size) (hF:∀k,k < M.heap.size->k≠D->F.heap[k]?=M.heap[k]?):A9 F own mb g R :=
 hM.aside hs (fun k t e=>hF k (hM.lt k t e) fun e'=>by rw [e',hD] at e;cases e) fun k _ hor=>by
  rcases hor with hb | rfl | ⟨o,e⟩
  ·exact hF k (hM.pg.blk_lt hb) fun e'=>hDp (e'▸hb)
  ·exact hF 0 (Nat.lt_of_le_of_lt (L4c _) (hM.lt _ _ hM.me)) (Ne.symm hD0)
  ·exact hF k (hM.dro k o e).1 fun e'=>hDd o (e'▸e)
theorem a0S {X w5:World} {R:RfR} {n:Int} {gb cap:Nat} (h:A9 w own mb g R) (hX:L0d w X) (hgrow:X.grownBy w5 R.ov.ownBlock) (hown:w5.ownsRow 0 3 1 (.slice (zA gb) (R.out.length+1) cap) (R.out.length+1) ((R.out.map fun n=>J n)++[J n])) (hat:R.ov.ownBlock=some gb\/gb=X.heap.size) :
  w5.cell? ⟨mb,3,none⟩=some R.ov/\w5.frozen? ⟨mb,3,none⟩=false/\mb < w5.heap.size/\(∀k,w.heap.size<=k->k < X.heap.size->w5.heap[k]?=X.heap[k]?/\k < w5.heap.size/\k≠mb) /\
   A9 (w5.setCell ⟨mb,3,none⟩ (.slice (zA gb) (R.out.length+1) cap)) (own.upd (some gb) .out) mb g { R with ov:=.slice (zA gb) (R.out.length+1) cap,out:=R.out++[n] } /\
   A2 own w (own.upd (some gb) .out) (w5.setCell ⟨mb,3,none⟩ (.slice (zA gb) (R.out.length+1) cap))/\∀k,w.heap.size<=k->k < X.heap.size->own.upd (some gb) .out k=none:=by
 have xh:=h.lt _ _ h.me;have xc:∀b,R.ov.ownBlock=some b->own b=some .out:=h.out.2
 have xe:w.heap.size<=w5.heap.size:=L5a hX.size hgrow.size;have xf:E7 w own (.slice (zA gb) (R.out.length+1) cap) .out:=fun b hb=>by
  obtain rfl:gb=b:=by simpa [Value.ownBlock] using hb
  rcases hat with h1 | h1
  ·exact L4a (xc gb h1)
  ·exact L4b (by have:=hX.size;omega)
 have xb:∀k,k < w.heap.size->own k≠some .out->w5.heap[k]?=w.heap[k]?:=fun k hk ho=>by
  rw[hgrow.block k (L0a hk hX.size) (fun e=>ho (xc k e.symm)),hX.block k hk]
 have xa:=xb mb xh (by rw [h.me];simp);have hc:∀j,w5.cell? ⟨mb,j,none⟩=w.cell? ⟨mb,j,none⟩:=fun j=>L0b (w:=w) (a:=⟨mb,j,none⟩) xa
 have xg:∀j,w5.frozen? ⟨mb,j,none⟩=false:=fun j=>by rw [L0c (w:=w) (a:=⟨mb,j,none⟩) xa];exact h.fz j
 have c3:w5.cell? ⟨mb,3,none⟩=some R.ov:=(hc 3).trans h.c3;have xi:gb≠mb:=fun e=>by
  rcases hat with h1 | h1
  ·have:=xc gb h1;rw [e,h.me] at this;cases this
  ·have:=hX.size;omega
 have xd:∀k,w.heap.size<=k->own k=none:=fun k hk=>by
  cases e:own k with
  | none=>rfl
  | some t=>have:=h.lt k t e;omega
 refine⟨c3,xg 3,L0a xh xe,fun k hk hk2=>⟨hgrow.block k hk2 (fun e=>by have:=h.lt _ _ (xc k e.symm);omega),L0a hk2 hgrow.size,by omega⟩,?_,?_,fun k hk hk2=>?_⟩
 ·have:=h.setOut (w':=w5.setCell ⟨mb,3,none⟩ (.slice (zA gb) (R.out.length+1) cap)) (v:=.slice (zA gb) (R.out.length+1) cap) (l:=R.out++[n]) (by simpa using xe) (fun k hk hne ho=>by rw [heap_setCell_other _ _ _ _ hne];exact xb k hk ho) (fun j hj=>(B9 _ (Ne.symm hj)).trans (hc j)) (World.cell?_setCell_same _ _ _ c3) (fun j=>by go_simp;try exact xg j)
   (by rw [List.length_append,List.map_append];exact ownsRow_setCell_other hown (fun e=>xi (by simpa [Value.ownBlock] using e)) _) xf
  exact this
 ·refine ⟨hgrow.os.trans hX.os,hgrow.tape.trans hX.tape,hgrow.output.trans hX.output,by simpa using xe,fun k hk hn=>?_,fun k hk=>Own.upd_old (v:=.slice (zA gb) (R.out.length+1) cap) xf hk⟩
  rw[heap_setCell_other _ _ _ _ (fun e=>by rw [e,h.me] at hn;cases hn)];exact xb k hk (by rw [hn];simp)
 ·unfold Own.upd
  rw[if_neg (fun e=>by
   have e':gb=k:=L5b e;rcases hat with h1 | h1
   ·have:=h.lt _ _ (xc gb h1);omega
   ·omega)]
  exact xd k hk
theorem a4V {own':Own} {R':RfR} (h0:A9 W own mb g R) (hda:R'.da=R.da) (hM:A9 M own' mb g R') (ht:A2 own W own' M) (D:Nat) (hDW:W.heap.size<=D) (hD:own' D=none) (v0 v1 v2 v3:Value) (o:Obj) :
  A9 (((((M.setCell ⟨D,0,none⟩ v0).setCell ⟨D,1,none⟩ v1).setCell ⟨D,2,none⟩ v2).setCell ⟨D,3,none⟩ v3).alloc o) own' mb g R'/\A2 own W own' (((((M.setCell ⟨D,0,none⟩ v0).setCell ⟨D,1,none⟩ v1).setCell ⟨D,2,none⟩ v2).setCell ⟨D,3,none⟩ v3).alloc o):=by
 have hF:∀k,k < M.heap.size->k≠D->(((((M.setCell ⟨D,0,none⟩ v0).setCell ⟨D,1,none⟩ v1).setCell ⟨D,2,none⟩ v2).setCell ⟨D,3,none⟩ v3).alloc o).heap[k]?=M.heap[k]?:=fun k hk hne=>by
  have hb:=(L3a (L3b ((((M.setCell ⟨D,0,none⟩ v0).setCell ⟨D,1,none⟩ v1).setCell ⟨D,2,none⟩ v2).setCell ⟨D,3,none⟩ v3).heap.size ((((M.setCell ⟨D,0,none⟩ v0).setCell ⟨D,1,none⟩ v1).setCell ⟨D,2,none⟩ v2).setCell ⟨D,3,none⟩ v3)) (L1c _) o).block k (by simpa using hk);rw[hb,heap_setCell_other _ _ _ _ hne,heap_setCell_other _ _ _ _ hne,heap_setCell_other _ _ _ _ hne,heap_setCell_other _ _ _ _ hne]
 have hs:M.heap.size<=(((((M.setCell ⟨D,0,none⟩ v0).setCell ⟨D,1,none⟩ v1).setCell ⟨D,2,none⟩ v2).setCell ⟨D,3,none⟩ v3).alloc o).heap.size:=by simp
 refine⟨hM.off D hD (fun hb=>?_) (fun e=>?_) (fun q e=>?_) hs hF,⟨ht.os,ht.tape,ht.output,L5a ht.size hs,fun k hk hn=>(hF k (L0a hk ht.size) R5).trans (ht.block k hk hn),ht.old⟩⟩
 ·have:=h0.pg.blk_lt hb;omega
 ·have:=h0.lt _ _ h0.me;omega
 ·rw [hda] at e
  have:=(h0.dro D q e).1;omega
theorem xM {sb m sc nl lc:Nat} {la:Option Addr} (fn:Nat) (x:Val) (a:Int) (pc:Nat) (hpc:pc<=1000) (hsb:sb < W.heap.size) (x0:W.cell? ⟨sb,m*2,none⟩=some (zC x.1)) (x1:W.cell? ⟨sb,m*2+1,none⟩=some (J x.2)) (hm:m<=1000) {own:Own} {g:PgR} {R:RfR} (h:A9 W own mb g R) (h1:x.1=1) (ho:R.out.length < 40) :
  Calls prog 185 #[zB mb,.agg #[J 26,J a],J (pc:Int),.agg #[J (fn:Int),J (pc:Int),.slice la nl lc,.slice (zA sb) (m+1) sc]] W fun e w'=>K8 own mb g (fun R'=>∃ov,R'={ R with ov:=ov,out:=R.out++[x.2] }) 1 [] ((pc:Int)+1) 0 W e w':=by
 have xl:=(fun (_:m<=1000)=>hpc) hm;obtain⟨xk,xn⟩:=x;simp only at x0 x1;have xu:sb < W.heap.size+1:=by omega
 have xp:sb < W.heap.size+1+1:=by omega
 have xy:sb < W.heap.size+1+1+1:=by omega
 have xq:sb < W.heap.size+1+1+1+1:=by omega
 have xs:xk=1:=h1;subst xs;have yc:=h.lt _ _ h.me;obtain⟨oa,oc,xa,_⟩:=C2 h.out.1;have m3:=h.c3;rw[xa] at m3;have yd:¬(40:Int)<=(R.out.length:Int):=by omega
 have HO:=hid h.out.1;have HH:=hid h;have xf:=hid xa;obtain⟨i3,hi,hz,xc,xd⟩:=info_parts iE;have HI:=hid hi;have HZ:=hid hz;have xw:=hid xc;have xt:=hid xd;have ye:IntKind.i64.wrap ((m:Int)+1 - 1)=(m:Int):=by rw [Go.IntWalk.i64_in _ R5];omega
 have yf:IntKind.i64.wrap (m:Int)=(m:Int):=Go.IntWalk.i64_in _ R5;have ya:(m:Int) < (m:Int)+1:=by omega
 have yb:(0:Int)<=(m:Int):=by omega
 have yg:=h.fz 3;clear h h1 xa hi hz xc xd;have xo:mb < W.heap.size+1:=by omega
 have xx:mb < W.heap.size+1+1:=by omega
 have xj:mb < W.heap.size+1+1+1:=by omega
 have xi:mb < W.heap.size+1+1+1+1:=by omega
 go_enter func185,ntmps185;go_wp2_with fail;go_region_law ((first | (refine step_append_lies _ rfl (.tmp 148) (.tmp 155) 24 rfl 0 3 i3 _ 1 8 underlying24 HI.out HZ.out xw.out xt.out rfl R4 R.ov R.out.length (R.out.map fun n=>J n) (by rw [xf.out];first | rfl | simp [Act.eval]) (by repeat (first | exact HO.out | exact HO.out.drew | refine World.ownsRow.alloc ?_ _ | refine World.ownsRow.drew ?_)) _ 1 1 [J xn] Q3 rfl (World.news_of_block (cs:=#[J xn]) (t:=3) (fr:=(0,0)) (by first | exact B0 R6 | exact K9 R6)) (by simp [Value.oneCell']) R5 Q7 R5 (L4c _) _ rfl ?_;intro gq capq w5 hown5 hgrow5 hat5 hlt5;obtain ⟨y0,y1,y2,y3,y4,y5,y6⟩:=a0S HH.out P4 hgrow5 hown5 hat5;have q0:=y3 (W.heap.size+1+1) R5 R6;have d0:w5.cell? ⟨W.heap.size+1+1,0,none⟩=some (J 0):=(L0b (a:=⟨W.heap.size+1+1,0,none⟩) q0.1).trans R3;have d1:w5.cell? ⟨W.heap.size+1+1,1,none⟩=some zD:=(L0b (a:=⟨W.heap.size+1+1,1,none⟩) q0.1).trans R3;have d2:w5.cell? ⟨W.heap.size+1+1,2,none⟩=some (J 0):=(L0b (a:=⟨W.heap.size+1+1,2,none⟩) q0.1).trans R3;have d3:w5.cell? ⟨W.heap.size+1+1,3,none⟩=some (J 0):=(L0b (a:=⟨W.heap.size+1+1,3,none⟩) q0.1).trans R3;have xr:w5.frozen? ⟨W.heap.size+1+1,0,none⟩=false:=(L0c (a:=⟨W.heap.size+1+1,0,none⟩) q0.1).trans R3;have xm:w5.frozen? ⟨W.heap.size+1+1,1,none⟩=false:=(L0c (a:=⟨W.heap.size+1+1,1,none⟩) q0.1).trans R3;have xz:w5.frozen? ⟨W.heap.size+1+1,2,none⟩=false:=(L0c (a:=⟨W.heap.size+1+1,2,none⟩) q0.1).trans R3;have xv:w5.frozen? ⟨W.heap.size+1+1,3,none⟩=false:=(L0c (a:=⟨W.heap.size+1+1,3,none⟩) q0.1).trans R3;have q5:=q0.2.1;have q6:=q0.2.2;have q7:mb≠W.heap.size+1+1:=Ne.symm q6;have HN:Hid (own.upd (some gq) .out (W.heap.size+1+1)=none):=hid (y6 _ R5 R6);have xg:=hid y4;have xh:=hid y5;rw [xf.out] at y0;clear y3 y4 y5 y6 q0 hown5 hgrow5 hat5)))
 all_goals
  have xb:(w5.setCell ⟨mb,3,none⟩ (.slice (zA gq) (R.out.length+1) capq)).heap[W.heap.size+1+1]?=w5.heap[W.heap.size+1+1]?:=heap_setCell_other _ _ _ _ q6;rw[<- L0b (a:=⟨W.heap.size+1+1,_,none⟩) xb] at d0 d1 d2 d3;rw[<- L0c (a:=⟨W.heap.size+1+1,_,none⟩) xb] at xr xm xz xv;have xe:(w5.setCell ⟨mb,3,none⟩ (.slice (zA gq) (R.out.length+1) capq)).heap.size=w5.heap.size:=by simp
  rw[<- xe] at q5;clear xb xe y0 y1 y2 hlt5 q6 q7;generalize (w5.setCell ⟨mb,3,none⟩ (.slice (zA gq) (R.out.length+1) capq))=M at *
  go_wp2_with (go_at_call 222;refine (W6 _ _ _ hpc).mono ?_;rintro e w' ⟨rfl,rfl⟩)
  refine bodyPost_ret (v:=.agg #[J 1,zD,J ((pc:Int)+1),J 0]) (by simp [results,results185,go_sem,d0,d1,d2,d3,q5]) rfl ?_;obtain⟨hF,hT⟩:=a4V HH.out (by rfl) xg.out xh.out (W.heap.size+1+1) R5 HN.out _ _ _ _ _;exact⟨_,_,none,0,rfl,hF,⟨_,rfl⟩,hT,B8 _ _,fun b hb=>by cases hb⟩
end
end Go.Proofs.YtbkmgoffiigdbaaGreatDoor
