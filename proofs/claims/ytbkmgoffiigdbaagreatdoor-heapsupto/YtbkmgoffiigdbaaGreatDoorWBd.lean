import Derived.Test.YtbkmgoffiigdbaaGreatDoorWBc
namespace Go.Proofs.YtbkmgoffiigdbaaGreatDoor
open Go.RowKit Go.Sort Go.Proofs.Tryz
set_option maxHeartbeats 2000000
set_option maxRecDepth 100000
section
variable {M W w:World} {R:RfR} {g:PgR} {mb:Nat} {own:Own}
theorem A8.setOut {w':World} {R:RfR} {v:Value} {l:List Int} (h:A8 w own mb g R) (hsize:w.heap.size<=w'.heap.size)
  (hk:∀k,k < w.heap.size->k≠mb->own k≠some .out->w'.heap[k]?=w.heap[k]?)
  (hc:∀j,j≠3->w'.cell? ⟨mb,j,none⟩=w.cell? ⟨mb,j,none⟩) (hc3:w'.cell? ⟨mb,3,none⟩=some v) (hfz:∀j,w'.frozen? ⟨mb,j,none⟩=false)
  (hrow:w'.ownsRow 0 3 1 v l.length (l.map fun n=>.int .i64 n)) (hon:E3 w own v .out) :
  A8 w' (own.upd v.ownBlock .out) mb g { R with ov:=v,out:=l }:=by
 have xa:=h.lt;have keep:∀t,t≠.mach->t≠.out->∀k,own k=some t->w'.heap[k]?=w.heap[k]?:=fun t h1 h2 k hk' =>
  hk k (xa k t hk') (fun e=>by rw [e,h.me] at hk';exact h1 (L5b hk').symm) (by rw [hk'];exact fun e=>h2 (L5b e))
 have xb:∀k,k < w.heap.size->own k=none->w'.heap[k]?=w.heap[k]?:=fun k hk1 hk2=>hk k hk1 (fun e=>by rw [e,h.me] at hk2;cases hk2) (by rw [hk2];simp)
 exact h.edit (R':={ R with ov:=v,out:=l }) hsize (Own.upd_lt xa hsize hrow) (by rw [Own.upd_old hon (xa mb _ h.me)];exact h.me) (fun k hn hks _=>⟨by rw [Own.upd_old hon hks];exact hn,xb k hks hn⟩) (hc 0 R3) ((hc 1 R3).trans h.c1) ((hc 2 R3).trans h.c2) hc3 ((hc 4 R3).trans h.c4) ((hc 5 R3).trans h.c5) (hc 6 R3) hfz
  ⟨hrow,fun b hb=>by simp [Own.upd,hb]⟩ (h.called.upd xa hon (keep _ R5 R5)) (h.things.upd xa hon (keep _ R5 R5)) (fun i x hx=>(h.loc i x hx).upd xa hon (keep _ R5 R5)) (fun i x hx=>(h.stk i x hx).upd xa hon (keep _ R5 R5)) (fun i x hx=>(h.fld i x hx).upd xa hon (keep _ R5 R5)) (fun b o e=>by rw [Own.upd_old hon (h.dro b o e).1];exact (h.dro b o e).2) rfl rfl rfl
theorem A8.off {F:World} (hM:A8 M own mb g R) (D:Nat) (hD:own D=none) (hDp:¬g.blk D) (hD0:D≠0) (hDd:∀o,R.da≠some ⟨D,o,none⟩) (hs:M.heap.size<=F.heap.size) (hF:∀k,k < M.heap.size->k≠D->F.heap[k]?=M.heap[k]?):A8 F own mb g R :=
 hM.aside hs (fun k t e=>hF k (hM.lt k t e) fun e'=>by rw [e',hD] at e;cases e) fun k _ hor=>by
  rcases hor with hb | rfl | ⟨o,e⟩
  ·exact hF k (hM.pg.blk_lt hb) fun e'=>hDp (e'▸hb)
  ·exact hF 0 (Nat.lt_of_le_of_lt (L4c _) (hM.lt _ _ hM.me)) (Ne.symm hD0)
  ·exact hF k (hM.dro k o e).1 fun e'=>hDd o (e'▸e)
theorem xR {X w5:World} {R:RfR} {n:Int} {gb cap:Nat} (h:A8 w own mb g R) (hX:L0d w X) (hgrow:X.grownBy w5 R.ov.ownBlock) (hown:w5.ownsRow 0 3 1 (.slice (some ⟨gb,0,none⟩) (R.out.length+1) cap) (R.out.length+1) ((R.out.map fun n=>.int .i64 n)++[.int .i64 n])) (hat:R.ov.ownBlock=some gb\/gb=X.heap.size) :
  w5.cell? ⟨mb,3,none⟩=some R.ov/\w5.frozen? ⟨mb,3,none⟩=false/\mb < w5.heap.size/\(∀k,w.heap.size<=k->k < X.heap.size->w5.heap[k]?=X.heap[k]?/\k < w5.heap.size/\k≠mb) /\
   A8 (w5.setCell ⟨mb,3,none⟩ (.slice (some ⟨gb,0,none⟩) (R.out.length+1) cap)) (own.upd (some gb) .out) mb g { R with ov:=.slice (some ⟨gb,0,none⟩) (R.out.length+1) cap,out:=R.out++[n] } /\
   A2 own w (own.upd (some gb) .out) (w5.setCell ⟨mb,3,none⟩ (.slice (some ⟨gb,0,none⟩) (R.out.length+1) cap))/\∀k,w.heap.size<=k->k < X.heap.size->own.upd (some gb) .out k=none:=by
 have xh:=h.lt _ _ h.me;have xc:∀b,R.ov.ownBlock=some b->own b=some .out:=h.out.2
 have xd:w.heap.size<=w5.heap.size:=L5a hX.size hgrow.size;have xf:E3 w own (.slice (some ⟨gb,0,none⟩) (R.out.length+1) cap) .out:=fun b hb=>by
  obtain rfl:gb=b:=by simpa [Value.ownBlock] using hb
  rcases hat with h1 | h1
  ·exact L4a (xc gb h1)
  ·exact L4b (by have:=hX.size;omega)
 have xb:∀k,k < w.heap.size->own k≠some .out->w5.heap[k]?=w.heap[k]?:=fun k hk ho=>by
  rw[hgrow.block k (L0a hk hX.size) (fun e=>ho (xc k e.symm)),hX.block k hk]
 have xa:=xb mb xh (by rw [h.me];simp);have hc:∀j,w5.cell? ⟨mb,j,none⟩=w.cell? ⟨mb,j,none⟩:=fun j=>L0b (w:=w) (a:=⟨mb,j,none⟩) xa
 have xg:∀j,w5.frozen? ⟨mb,j,none⟩=false:=fun j=>by rw [L0c (w:=w) (a:=⟨mb,j,none⟩) xa];exact h.fz j
 have c3:w5.cell? ⟨mb,3,none⟩=some R.ov:=(hc 3).trans h.c3;have xi:gb≠mb:=fun e=>by
  rcases hat with h1 | h1
  ·have:=xc gb h1;rw [e,h.me] at this;cases this
  ·have:=hX.size;omega
 have xe:∀k,w.heap.size<=k->own k=none:=fun k hk=>by
  cases e:own k with
  | none=>rfl
  | some t=>have:=h.lt k t e;omega
 refine⟨c3,xg 3,L0a xh xd,fun k hk hk2=>⟨hgrow.block k hk2 (fun e=>by have:=h.lt _ _ (xc k e.symm);omega),L0a hk2 hgrow.size,by omega⟩,?_,?_,fun k hk hk2=>?_⟩
 ·have:=h.setOut (w':=w5.setCell ⟨mb,3,none⟩ (.slice (some ⟨gb,0,none⟩) (R.out.length+1) cap)) (v:=.slice (some ⟨gb,0,none⟩) (R.out.length+1) cap) (l:=R.out++[n]) (by simpa using xd) (fun k hk hne ho=>by rw [heap_setCell_other _ _ _ _ hne];exact xb k hk ho) (fun j hj=>(B7 _ (Ne.symm hj)).trans (hc j)) (World.cell?_setCell_same _ _ _ c3) (fun j=>by go_simp;try exact xg j)
   (by rw [List.length_append,List.map_append];exact ownsRow_setCell_other hown (fun e=>xi (by simpa [Value.ownBlock] using e)) _) xf
  exact this
 ·refine ⟨hgrow.os.trans hX.os,hgrow.tape.trans hX.tape,hgrow.output.trans hX.output,by simpa using xd,fun k hk hn=>?_,fun k hk=>Own.upd_old (v:=.slice (some ⟨gb,0,none⟩) (R.out.length+1) cap) xf hk⟩
  rw[heap_setCell_other _ _ _ _ (fun e=>by rw [e,h.me] at hn;cases hn)];exact xb k hk (by rw [hn];simp)
 ·unfold Own.upd
  rw[if_neg (fun e=>by
   have e':gb=k:=L5b e;rcases hat with h1 | h1
   ·have:=h.lt _ _ (xc gb h1);omega
   ·omega)]
  exact xe k hk
theorem a2w {own':Own} {R':RfR} (h0:A8 W own mb g R) (hda:R'.da=R.da) (hM:A8 M own' mb g R') (ht:A2 own W own' M) (D:Nat) (hDW:W.heap.size<=D) (hD:own' D=none) (v0 v1 v2 v3:Value) (o:Obj) :
  A8 (((((M.setCell ⟨D,0,none⟩ v0).setCell ⟨D,1,none⟩ v1).setCell ⟨D,2,none⟩ v2).setCell ⟨D,3,none⟩ v3).alloc o) own' mb g R'/\A2 own W own' (((((M.setCell ⟨D,0,none⟩ v0).setCell ⟨D,1,none⟩ v1).setCell ⟨D,2,none⟩ v2).setCell ⟨D,3,none⟩ v3).alloc o):=by
 have hF:∀k,k < M.heap.size->k≠D->(((((M.setCell ⟨D,0,none⟩ v0).setCell ⟨D,1,none⟩ v1).setCell ⟨D,2,none⟩ v2).setCell ⟨D,3,none⟩ v3).alloc o).heap[k]?=M.heap[k]?:=fun k hk hne=>by
  have hb:=(L3a (L3b ((((M.setCell ⟨D,0,none⟩ v0).setCell ⟨D,1,none⟩ v1).setCell ⟨D,2,none⟩ v2).setCell ⟨D,3,none⟩ v3).heap.size ((((M.setCell ⟨D,0,none⟩ v0).setCell ⟨D,1,none⟩ v1).setCell ⟨D,2,none⟩ v2).setCell ⟨D,3,none⟩ v3)) (L1c _) o).block k (by simpa using hk);rw[hb,heap_setCell_other _ _ _ _ hne,heap_setCell_other _ _ _ _ hne,heap_setCell_other _ _ _ _ hne,heap_setCell_other _ _ _ _ hne]
 have hs:M.heap.size<=(((((M.setCell ⟨D,0,none⟩ v0).setCell ⟨D,1,none⟩ v1).setCell ⟨D,2,none⟩ v2).setCell ⟨D,3,none⟩ v3).alloc o).heap.size:=by simp
 refine⟨hM.off D hD (fun hb=>?_) (fun e=>?_) (fun q e=>?_) hs hF,⟨ht.os,ht.tape,ht.output,L5a ht.size hs,fun k hk hn=>(hF k (L0a hk ht.size) R4).trans (ht.block k hk hn),ht.old⟩⟩
 ·have:=h0.pg.blk_lt hb;omega
 ·have:=h0.lt _ _ h0.me;omega
 ·rw [hda] at e
  have:=(h0.dro D q e).1;omega
theorem tV {sb m sc nl lc:Nat} {la:Option Addr} (fn:Nat) (x:Val) (a:Int) (pc:Nat) (hpc:pc<=1000) (hsb:sb < W.heap.size) (x0:W.cell? ⟨sb,m*2,none⟩=some (.int .u8 x.1)) (x1:W.cell? ⟨sb,m*2+1,none⟩=some (.int .i64 x.2)) (hm:m<=1000) {own:Own} {g:PgR} {R:RfR} (h:A8 W own mb g R) (h1:x.1=1) (ho:R.out.length < 40) :
  Calls prog 185 #[.pointer (some ⟨mb,0,none⟩),.agg #[.int .i64 26,.int .i64 a],.int .i64 (pc:Int),.agg #[.int .i64 (fn:Int),.int .i64 (pc:Int),.slice la nl lc,.slice (some ⟨sb,0,none⟩) (m+1) sc]] W fun e w'=>J6 own mb g (fun R'=>∃ov,R'={ R with ov:=ov,out:=R.out++[x.2] }) 1 [] ((pc:Int)+1) 0 W e w':=by
 have xx:=(fun (_:m<=1000)=>hpc) hm;obtain⟨xk,xn⟩:=x;simp only at x0 x1;have xl:sb < W.heap.size+1:=by omega
 have xt:sb < W.heap.size+1+1:=by omega
 have xo:sb < W.heap.size+1+1+1:=by omega
 have xg:sb < W.heap.size+1+1+1+1:=by omega
 have xq:xk=1:=h1;subst xq;have yc:=h.lt _ _ h.me;obtain⟨oa,oc,xa,_⟩:=B4 h.out.1;have m3:=h.c3;rw[xa] at m3;have yb:¬(40:Int)<=(R.out.length:Int):=by omega
 have HO:=hid h.out.1;have HH:=hid h;have xe:=hid xa;obtain⟨i3,hi,hz,xf,xc⟩:=info_parts dW;have HI:=hid hi;have HZ:=hid hz;have xr:=hid xf;have xm:=hid xc;have ya:IntKind.i64.wrap ((m:Int)+1 - 1)=(m:Int):=by rw [Go.IntWalk.i64_in _ R4];omega
 have yd:IntKind.i64.wrap (m:Int)=(m:Int):=Go.IntWalk.i64_in _ R4;have ye:(m:Int) < (m:Int)+1:=by omega
 have yg:(0:Int)<=(m:Int):=by omega
 have yf:=h.fz 3;clear h h1 xa hi hz xf xc;have xw:mb < W.heap.size+1:=by omega
 have xh:mb < W.heap.size+1+1:=by omega
 have xs:mb < W.heap.size+1+1+1:=by omega
 have xi:mb < W.heap.size+1+1+1+1:=by omega
 go_enter func185,ntmps185;go_wp2_with fail;go_region_law ((first | (refine step_append_lies _ rfl (.tmp 148) (.tmp 155) 24 rfl 0 3 i3 _ 1 8 underlying24 HI.out HZ.out xr.out xm.out rfl R3 R.ov R.out.length (R.out.map fun n=>.int .i64 n) (by rw [xe.out];first | rfl | simp [Act.eval]) (by repeat (first | exact HO.out | exact HO.out.drew | refine World.ownsRow.alloc ?_ _ | refine World.ownsRow.drew ?_)) _ 1 1 [.int .i64 xn] Q3 rfl (World.news_of_block (cs:=#[.int .i64 xn]) (t:=3) (fr:=(0,0)) (by first | exact B1 R5 | exact J7 R5)) (by simp [Value.oneCell']) R4 Q5 R4 (L4c _) _ rfl ?_;intro gq capq w5 hown5 hgrow5 hat5 hlt5;obtain ⟨y0,y1,y2,y3,y4,y5,y6⟩:=xR HH.out P4 hgrow5 hown5 hat5;have q0:=y3 (W.heap.size+1+1) R4 R5;have d0:w5.cell? ⟨W.heap.size+1+1,0,none⟩=some (.int .i64 0):=(L0b (a:=⟨W.heap.size+1+1,0,none⟩) q0.1).trans Q9;have d1:w5.cell? ⟨W.heap.size+1+1,1,none⟩=some (.slice none 0 0):=(L0b (a:=⟨W.heap.size+1+1,1,none⟩) q0.1).trans Q9;have d2:w5.cell? ⟨W.heap.size+1+1,2,none⟩=some (.int .i64 0):=(L0b (a:=⟨W.heap.size+1+1,2,none⟩) q0.1).trans Q9;have d3:w5.cell? ⟨W.heap.size+1+1,3,none⟩=some (.int .i64 0):=(L0b (a:=⟨W.heap.size+1+1,3,none⟩) q0.1).trans Q9;have xv:w5.frozen? ⟨W.heap.size+1+1,0,none⟩=false:=(L0c (a:=⟨W.heap.size+1+1,0,none⟩) q0.1).trans Q9;have xz:w5.frozen? ⟨W.heap.size+1+1,1,none⟩=false:=(L0c (a:=⟨W.heap.size+1+1,1,none⟩) q0.1).trans Q9;have xy:w5.frozen? ⟨W.heap.size+1+1,2,none⟩=false:=(L0c (a:=⟨W.heap.size+1+1,2,none⟩) q0.1).trans Q9;have xp:w5.frozen? ⟨W.heap.size+1+1,3,none⟩=false:=(L0c (a:=⟨W.heap.size+1+1,3,none⟩) q0.1).trans Q9;have q5:=q0.2.1;have q6:=q0.2.2;have q7:mb≠W.heap.size+1+1:=Ne.symm q6;have HN:Hid (own.upd (some gq) .out (W.heap.size+1+1)=none):=hid (y6 _ R4 R5);have xu:=hid y4;have xj:=hid y5;rw [xe.out] at y0;clear y3 y4 y5 y6 q0 hown5 hgrow5 hat5)))
 all_goals
  have xb:(w5.setCell ⟨mb,3,none⟩ (.slice (some ⟨gq,0,none⟩) (R.out.length+1) capq)).heap[W.heap.size+1+1]?=w5.heap[W.heap.size+1+1]?:=heap_setCell_other _ _ _ _ q6;rw[<- L0b (a:=⟨W.heap.size+1+1,_,none⟩) xb] at d0 d1 d2 d3;rw[<- L0c (a:=⟨W.heap.size+1+1,_,none⟩) xb] at xv xz xy xp;have xd:(w5.setCell ⟨mb,3,none⟩ (.slice (some ⟨gq,0,none⟩) (R.out.length+1) capq)).heap.size=w5.heap.size:=by simp
  rw[<- xd] at q5;clear xb xd y0 y1 y2 hlt5 q6 q7;generalize (w5.setCell ⟨mb,3,none⟩ (.slice (some ⟨gq,0,none⟩) (R.out.length+1) capq))=M at *
  go_wp2_with (go_at_call 222;refine (R8 _ _ _ hpc).mono ?_;rintro e w' ⟨rfl,rfl⟩)
  refine bodyPost_ret (v:=.agg #[.int .i64 1,.slice none 0 0,.int .i64 ((pc:Int)+1),.int .i64 0]) (by simp [results,results185,go_sem,d0,d1,d2,d3,q5]) rfl ?_;obtain⟨hF,hT⟩:=a2w HH.out (by rfl) xu.out xj.out (W.heap.size+1+1) R4 HN.out _ _ _ _ _;exact⟨_,_,none,0,rfl,hF,⟨_,rfl⟩,hT,B8 _ _,fun b hb=>by cases hb⟩
end
end Go.Proofs.YtbkmgoffiigdbaaGreatDoor
