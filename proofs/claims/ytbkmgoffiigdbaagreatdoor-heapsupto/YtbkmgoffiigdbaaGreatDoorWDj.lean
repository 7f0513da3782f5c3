import Derived.Test.YtbkmgoffiigdbaaGreatDoorWDg
import Derived.Deep.RegionLaw
import Derived.Deep.RegionHeld3
namespace Go.Proofs.YtbkmgoffiigdbaaGreatDoor
open Go.RowKit Go.Sort Go.Proofs.Tryz
set_option maxHeartbeats 4000000
set_option maxRecDepth 100000
section
variable {R:McR} {f:FrR} {fs:List FrR} {g:PgR} {mb sb:Nat} {n:Int} {own:Own} {rest:List Val} {va:Option Addr} {w:World}
theorem A4.setOut {w':World} {R:McR} {v:Value} {l:List Int} (h:A4 w own mb g R) (hsize:w.heap.size<=w'.heap.size)
  (hk:∀k,k < w.heap.size->k≠mb->own k≠some .out->w'.heap[k]?=w.heap[k]?)
  (hc:∀j,j≠2->w'.cell? ⟨mb,j,none⟩=w.cell? ⟨mb,j,none⟩) (hc2:w'.cell? ⟨mb,2,none⟩=some v) (hfz:∀j,w'.frozen? ⟨mb,j,none⟩=false)
  (hrow:w'.ownsRow 0 3 1 v l.length (l.map fun n=>.int .i64 n)) (hon:E3 w own v .out) :
  A4 w' (own.upd v.ownBlock .out) mb g { R with ov:=v,out:=l }:=by
 have xa:=h.lt;have keep:∀t,t≠.mach->t≠.out->∀k,own k=some t->w'.heap[k]?=w.heap[k]?:=fun t h1 h2 k hk' =>
  hk k (xa k t hk') (fun e=>by rw [e,h.me] at hk';exact h1 (L5b hk').symm) (by rw [hk'];exact fun e=>h2 (L5b e))
 have xb:∀k,k < w.heap.size->own k=none->w'.heap[k]?=w.heap[k]?:=fun k hk1 hk2=>hk k hk1 (fun e=>by rw [e,h.me] at hk2;cases hk2) (by rw [hk2];simp)
 refine⟨Own.upd_lt xa hsize hrow,?_,?_,?_,hc2,?_,?_,hfz,⟨hrow,fun b hb=>by simp [Own.upd,hb]⟩,h.called.upd xa hon (keep _ R5 R5),h.slots.upd xa hon (keep _ R5 R5),
  fun i x hx=>(h.loc i x hx).upd xa hon (keep _ R5 R5),fun i x hx=>(h.stk i x hx).upd xa hon (keep _ R5 R5),fun j o ho=>(h.fld j o ho).upd xa hon (keep _ R5 R5),?_,?_,?_,?_,?_,h.draws.upd xa hon (keep _ R5 R5)⟩
 ·rw [Own.upd_old hon (xa mb _ h.me)];exact h.me
 ·rw [hc 0 R4];exact h.c0
 ·rw [hc 1 R4];exact h.c1
 ·rw [hc 3 R4];exact h.c3
 ·rw [hc 4 R4];exact h.c4
 ·exact h.pg.held hsize fun k hb=>xb k (h.pg.blk_lt hb) (h.ro k hb)
 ·intro k hb;rw [Own.upd_old hon (h.pg.blk_lt hb)];exact h.ro k hb
 ·exact h.tab.held hsize (xb 0 h.tab.1 h.ro0)
 ·rw [Own.upd_old hon h.tab.1];exact h.ro0
 ·rw [hc 5 R4];exact h.c5
theorem dW:(prog.info? 3).map (fun i=>(i.zero,i.size,i.bytes))=some (some (.int .i64 0),1,8):=by kernel_rfl
def X7 (own:Own) (mb:Nat) (g:PgR) (P:McR->Prop) (st:Int) (w:World) (e:Ending) (w':World):Prop :=
 ∃own' R',e=.returned (.int .i64 st)/\A4 w' own' mb g R'/\P R'/\A2 own w own' w'
def a4t (R:McR) (fs:List FrR) (f:FrR) (rest:List Val) (n:Int) (R':McR):Prop:=∃ov' sv',R'={ R with ov:=ov',out:=R.out++[n],frs:=fs++[{ f with pc:=f.pc+1,sv:=sv',stk:=rest }] }
theorem a0Z {R:McR} {W w5:World} {gb cap:Nat} (h:C0 w own mb g R fs f rest [(1,n)] va sb) (hB:L0d w W) (hgrow:W.grownBy w5 R.ov.ownBlock)
  (hown:w5.ownsRow 0 3 1 (.slice (some ⟨gb,0,none⟩) (R.out.length+1) cap) (R.out.length+1) ((R.out.map fun n=>.int .i64 n)++[.int .i64 n])) (hat:R.ov.ownBlock=some gb\/gb=W.heap.size) :
  w5.frozen? ⟨mb,2,none⟩=false/\w5.cell? ⟨mb,2,none⟩=some R.ov/\mb < w5.heap.size /\
   C0 (w5.setCell ⟨mb,2,none⟩ (.slice (some ⟨gb,0,none⟩) (R.out.length+1) cap)) (own.upd (some gb) .out) mb g { R with ov:=.slice (some ⟨gb,0,none⟩) (R.out.length+1) cap,out:=R.out++[n] } fs f rest [(1,n)] va sb /\
   A2 own w (own.upd (some gb) .out) (w5.setCell ⟨mb,2,none⟩ (.slice (some ⟨gb,0,none⟩) (R.out.length+1) cap)):=by
 have hm:=h.m;have xm:mb < w.heap.size:=hm.lt mb _ hm.me;have xc:∀b,R.ov.ownBlock=some b->own b=some .out:=hm.out.2
 have xj:R.ov.ownBlock≠some mb:=fun e=>by have:=xc mb e;rw [hm.me] at this;cases this
 have xl:gb≠mb:=fun e=>by
  rcases hat with h1 | h1
  ·exact xj (e▸h1)
  ·have:=hB.size;omega
 have xh:w.heap.size<=w5.heap.size:=L5a hB.size hgrow.size;have xd:E3 w own (.slice (some ⟨gb,0,none⟩) (R.out.length+1) cap) .out:=fun b hb=>by
  obtain rfl:gb=b:=by simpa [Value.ownBlock] using hb
  rcases hat with h1 | h1
  ·exact L4a (xc gb h1)
  ·exact L4b (by have:=hB.size;omega)
 have xb:∀k,k < w.heap.size->own k≠some .out->w5.heap[k]?=w.heap[k]?:=fun k hk ho=>by
  rw[hgrow.block k (L0a hk hB.size) (fun e=>ho (xc k e.symm)),hB.block k hk]
 have xa:=xb mb xm (by rw [hm.me];simp);have xf:∀j,w5.frozen? ⟨mb,j,none⟩=false:=fun j=>by rw [L0c (w:=w) (a:=⟨mb,j,none⟩) xa];exact hm.fz j
 have xk:w5.cell? ⟨mb,2,none⟩=some R.ov:=by rw [L0b (w:=w) (a:=⟨mb,2,none⟩) xa];exact hm.c2
 have xe:mb < w5.heap.size:=by omega
 have hM:A4 (w5.setCell ⟨mb,2,none⟩ (.slice (some ⟨gb,0,none⟩) (R.out.length+1) cap)) (own.upd (some gb) .out) mb g { R with ov:=.slice (some ⟨gb,0,none⟩) (R.out.length+1) cap,out:=R.out++[n] }:=by
  refine A4.setOut (v:=.slice (some ⟨gb,0,none⟩) (R.out.length+1) cap) (l:=R.out++[n]) hm (by simpa using xh) (fun k hk h1 h2=>?_) (fun j hj=>?_) ?_ (fun j=>?_) ?_ xd
  ·rw [heap_setCell_other _ _ _ _ h1];exact xb k hk h2
  ·rw [<- L0b (w:=w) (w':=w5) (a:=⟨mb,j,none⟩) xa]
   go_simp
  ·go_simp
  ·have:=xf j
   go_simp
  ·have:=ownsRow_setCell_other hown (a:=⟨mb,2,none⟩) (by simpa [Value.ownBlock] using xl) (.slice (some ⟨gb,0,none⟩) (R.out.length+1) cap)
   simpa using this
 refine⟨xf 2,xk,xe,⟨hM,h.hf,h.hst,fun h0=>?_,h.hn,h.hs,h.hpc⟩,⟨?_,?_,?_,by simpa using xh,fun k hk hno=>?_,fun k hk=>Own.upd_old xd hk⟩⟩
 ·obtain ⟨q1,q2,q3⟩:=h.hva h0
  have xg:sb < w.heap.size:=hm.lt sb _ q2;have xi:sb≠mb:=fun e=>by rw [e,hm.me] at q2;cases q2
  refine⟨q1,(Own.upd_old xd xg).trans q2,fun j x hx=>?_⟩;have e:(w5.setCell ⟨mb,2,none⟩ (.slice (some ⟨gb,0,none⟩) (R.out.length+1) cap)).heap[sb]?=w.heap[sb]?:=by
   rw[heap_setCell_other _ _ _ _ xi];exact xb sb xg (by rw [q2];simp)
  rw[L0b (w:=w) (a:=⟨sb,rest.length*2+j*2,none⟩) e,L0b (w:=w) (a:=⟨sb,rest.length*2+j*2+1,none⟩) e];exact q3 j x hx
 ·exact hgrow.os.trans hB.os
 ·exact hgrow.tape.trans hB.tape
 ·exact hgrow.output.trans hB.output
 ·rw [heap_setCell_other _ _ _ _ (fun e=>by rw [e,hm.me] at hno;cases hno)]
  exact xb k hk (by rw [hno];simp)
theorem sG (h:C0 w own mb g R fs f rest [(1,n)] va sb) (hl:R.out.length < 40) (a:Int) (vc:Nat) :
  Calls prog 288 #[.pointer (some ⟨mb,0,none⟩),.int .i64 a,.slice va 1 vc] w fun e w'=>X7 own mb g (a4t R fs f rest n) 0 w e w':=by
 obtain⟨o,rfl,xl,c0,c1⟩:=h.one;simp only at c0 c1;have d2:=h.m.c2;have xm:mb < w.heap.size:=h.m.lt mb _ h.m.me;have xb:∃xe cc,R.ov=.slice xe R.out.length cc:=by
  rcases h.m.out.1.2 with ⟨e,e0⟩ | ⟨gb,xk,_,e,_⟩
  ·exact ⟨none,0,by rw [e,e0]⟩
  ·exact ⟨_,_,e⟩
 obtain⟨xe,cc,xc⟩:=xb;have HO:=hid h.m.out.1;rw[xc] at d2;have xh:=hid xc;have HH:=hid h;clear h xc;go_enter func288,ntmps288;go_wp2_with (go_at_call 206;refine (C6 _ _ _).mono ?_;rintro e w' ⟨rfl,o4,rfl⟩)
 obtain⟨i3,hi,hz,xf,xd⟩:=info_parts dW;have HI:=hid hi;have HZ:=hid hz;have xi:=hid xf;have xg:=hid xd;clear hi hz xf xd;go_region_law ((first | (refine step_append_lies _ rfl (.tmp 22) (.tmp 27) 24 rfl 0 3 i3 _ 1 8 underlying24 HI.out HZ.out xi.out xg.out rfl R3 R.ov R.out.length (R.out.map fun n=>.int .i64 n) (by rw [xh.out];first | rfl | simp [Act.eval]) (by repeat (first | exact HO.out | exact HO.out.drew | refine World.ownsRow.alloc ?_ _ | refine World.ownsRow.drew ?_)) _ 1 1 [.int .i64 n] Q3 rfl (World.news_of_block (cs:=#[.int .i64 n]) (t:=3) (fr:=(0,0)) (by first | exact B1 R5 | exact J7 R5)) (by simp [Value.oneCell']) R4 Q5 R4 (L4c _) _ rfl ?_;intro gq capq w5 hown5 hgrow5 hat5 hlt5;obtain ⟨y0,y1,y2,hM,hT⟩:=a0Z HH.out P6 hgrow5 hown5 hat5;clear hown5 hgrow5 hat5 hlt5)))
 all_goals
  have HM:=hid hM;have HT:=hid hT;clear hM hT y0 y1 y2;go_wp2_with (go_at_call 290;refine (HM.out.answer (L3b _ _) vc _ [] (U8 _ _) R5 1 rfl).mono ?_;rintro e w' ⟨xa,xj,rfl,hm,ht⟩)
  go_ret;exact⟨xa,_,rfl,hm,⟨_,xj,by rw [List.append_nil]⟩,HT.out.trans ht⟩
theorem sH {x:Val} (h:C0 w own mb g R fs f rest [x] va sb) (hk:x.1≠1) (a:Int) (vc:Nat) :
  Calls prog 288 #[.pointer (some ⟨mb,0,none⟩),.int .i64 a,.slice va 1 vc] w fun e w'=>E9 2 w e w':=by
 obtain⟨o,rfl,xa,c0,c1⟩:=h.one;have h1:(x.1 == 1)=false:=L2c.2 hk;clear h hk;go_enter func288,ntmps288;go_wp2_with (go_at_call 206;refine (C6 _ _ _).mono ?_;rintro e w' ⟨rfl,o4,rfl⟩)
 go_ret;exact⟨rfl,P5⟩
theorem pH (h:C0 w own mb g R fs f rest [(1,n)] va sb) (hl:40<=R.out.length) (a:Int) (vc:Nat) :
  Calls prog 288 #[.pointer (some ⟨mb,0,none⟩),.int .i64 a,.slice va 1 vc] w fun e w'=>E9 7 w e w':=by
 obtain⟨o,rfl,xf,c0,c1⟩:=h.one;simp only at c0 c1;have d2:=h.m.c2;have xe:mb < w.heap.size:=h.m.lt mb _ h.m.me;have xa:∃xb cc,R.ov=.slice xb R.out.length cc:=by
  rcases h.m.out.1.2 with ⟨e,e0⟩ | ⟨gb,xd,_,e,_⟩
  ·exact ⟨none,0,by rw [e,e0]⟩
  ·exact ⟨_,_,e⟩
 obtain⟨xb,cc,xc⟩:=xa;rw[xc] at d2;clear h xc;go_enter func288,ntmps288;go_wp2_with (go_at_call 206;refine (C6 _ _ _).mono ?_;rintro e w' ⟨rfl,o4,rfl⟩)
 go_ret;exact⟨rfl,P5⟩
end
section
variable {R:McR} {g:PgR} {mb:Nat} {own:Own} {w:World}
theorem A4.setCell {R R':McR} (h:A4 w own mb g R) (i:Nat) (v:Value) (h1:i=1/\v=.int .i64 R'.st/\R'={ R with st:=R'.st }\/i=3/\v=.slice none 0 0/\R'={ R with cv:=.slice none 0 0,frs:=[] }) :
  A4 (w.setCell ⟨mb,i,none⟩ v) own mb g R':=by
 have xf:=h.lt;have xh:mb < w.heap.size:=xf mb _ h.me;have xd:∀k,k≠mb->(w.setCell ⟨mb,i,none⟩ v).heap[k]?=w.heap[k]?:=fun k hk=>heap_setCell_other _ _ _ _ hk
 have keep:∀t,t≠.mach->∀k,own k=some t->(w.setCell ⟨mb,i,none⟩ v).heap[k]?=w.heap[k]?/\own k=some t:=fun t ht k hk=>⟨xd k (fun e=>by rw [e,h.me] at hk;exact ht (L5b hk).symm),hk⟩
 have xa:∀j,j≠i->(w.setCell ⟨mb,i,none⟩ v).cell? ⟨mb,j,none⟩=w.cell? ⟨mb,j,none⟩:=fun j hj=>by go_simp
 have xb:w.cell? ⟨mb,i,none⟩≠none->(w.setCell ⟨mb,i,none⟩ v).cell? ⟨mb,i,none⟩=some v:=fun hn=>by
  cases e:w.cell? ⟨mb,i,none⟩ with
  | none=>exact absurd e hn
  | some u=>go_simp
 have xg:∀j,(w.setCell ⟨mb,i,none⟩ v).frozen? ⟨mb,j,none⟩=false:=fun j=>by have:=h.fz j;go_simp
 have xe:∀k,own k=none->(w.setCell ⟨mb,i,none⟩ v).heap[k]?=w.heap[k]?:=fun k hk=>xd k (fun e=>by rw [e,h.me] at hk;cases hk)
 have xc:w.heap.size<=(w.setCell ⟨mb,i,none⟩ v).heap.size:=by simp
 rcases h1 with ⟨rfl,rfl,he⟩ | ⟨rfl,rfl,he⟩
 ·rw [he]
  refine⟨fun k t hk=>L0a (xf k t hk) xc,h.me,?_,xb (by rw [h.c1];simp),?_,?_,?_,xg,h.out.kept (keep _ R5),h.called.kept (keep _ R5),h.slots.kept (keep _ R5),fun i f hf=>(h.loc i f hf).kept (keep _ R5),fun i f hf=>(h.stk i f hf).kept (keep _ R5),
   fun j o ho=>(h.fld j o ho).kept (keep _ R5),h.pg.held xc fun k hk=>xe k (h.ro k hk),h.ro,h.tab.held xc (xe 0 h.ro0),h.ro0,?_,h.draws.kept (keep _ R5)⟩
  ·rw [xa 0 R4];exact h.c0
  ·rw [xa 2 R4];exact h.c2
  ·rw [xa 3 R4];exact h.c3
  ·rw [xa 4 R4];exact h.c4
  ·rw [xa 5 R4];exact h.c5
 ·rw [he]
  refine⟨fun k t hk=>L0a (xf k t hk) xc,h.me,?_,?_,?_,xb (by rw [h.c3];simp),?_,xg,h.out.kept (keep _ R5),⟨World.ownsRow_nil _ _ _ _,fun b hb=>by cases hb⟩,h.slots.kept (keep _ R5),fun i f hf=>by simp at hf,fun i f hf=>by simp at hf,
   fun j o ho=>(h.fld j o ho).kept (keep _ R5),h.pg.held xc fun k hk=>xe k (h.ro k hk),h.ro,h.tab.held xc (xe 0 h.ro0),h.ro0,?_,h.draws.kept (keep _ R5)⟩
  ·rw [xa 0 R4];exact h.c0
  ·rw [xa 1 R4];exact h.c1
  ·rw [xa 2 R4];exact h.c2
  ·rw [xa 4 R4];exact h.c4
  ·rw [xa 5 R4];exact h.c5
theorem A2.setMb (hme:own mb=some .mach) (i:Nat) (v:Value):A2 own w own (w.setCell ⟨mb,i,none⟩ v) :=
 ⟨rfl,rfl,rfl,by simp,fun k _ hk=>heap_setCell_other _ _ _ _ (fun e=>by rw [e,hme] at hk;cases hk),fun _ _=>rfl⟩
theorem pX (h:A4 w own mb g R) :
  Calls prog 253 #[.pointer (some ⟨mb,3,none⟩)] w fun e w'=>e=.returned (.tuple #[])/\w'=w.setCell ⟨mb,3,none⟩ (.slice none 0 0):=by
 have c3:=h.c3;have fz:=h.fz 3;have xa:mb < w.heap.size:=h.lt mb _ h.me;clear h;go_enter func253,ntmps253;go_wp2
 go_end0
 exact⟨rfl,rfl⟩
theorem vH {R:McR} (h:A4 w own mb g R) (a:Int) (v:Value) :
  Calls prog 289 #[.pointer (some ⟨mb,0,none⟩),.int .i64 a,v] w fun e w'=>X7 own mb g (fun R'=>R'={ R with cv:=.slice none 0 0,frs:=[] }) 1 w e w':=by
 have HL:=hid (pX h);have HH:=hid h;clear h;go_enter func289,ntmps289;go_wp2_with (go_at_call 253;refine HL.out.mono ?_;rintro e w' ⟨rfl,rfl⟩)
 go_ret;exact⟨own,_,rfl,HH.out.setCell 3 _ (L4b ⟨rfl,rfl,rfl⟩),rfl,A2.setMb HH.out.me _ _⟩
end
section
variable {R:McR} {W w:World} {f:FrR} {fs:List FrR} {g:PgR} {mb:Nat} {own:Own}
theorem A7 {w2:World} (h2:L0d W w2) (h1:L0d w W):L0d w w2:=C5 h2 h1 h1.size
theorem lF {P: Program} {f: FuncId} (h : (P.funcs[f]?).map (fun fn => (fn.name == "runtime.NumGoroutine", fn.body.isNone)) = some (false, false)) (args : Array Value) (w : World) :
  Sem.run P (callFunc f args) w=.ok (.enter f args) w:=by
 obtain⟨fn,hf,hq⟩:=Option.map_eq_some_iff.1 h;simp only[Prod.mk.injEq] at hq;obtain⟨h1,h2⟩:=hq;have e:Sem.run P program w=.ok P w:=rfl;simp only[callFunc,Sem.run_bind,e,Result.andThen_ok,hf,h1,h2];rfl
theorem a0n : (List.range 28).all (fun k => (prog.funcs[doT k]?).map (fun fn => (fn.name == "runtime.NumGoroutine", fn.body.isNone)) == some (false, false)) = true := by kernel_rfl
theorem a0m {k:Nat} (hk:k < 28):∀(args:Array Value) (w:World),Sem.run prog (callFunc (doT k) args) w=.ok (.enter (doT k) args) w :=
 lF (beq_iff_eq.1 (List.all_eq_true.1 a0n k (List.mem_range.2 hk)))
def gV (own:Own) (mb:Nat) (g:PgR) (P:McR->Prop) (w:World) (e:Ending) (w':World):Prop :=
 ∃own' R',e=.returned (.tuple #[])/\A4 w' own' mb g R'/\P R'/\A2 own w own' w'
structure a4r (g:PgR) (f:FrR) (k:Nat) (a:Int) (n:Nat):Prop where
 fn:f.fn < g.n
 pc:f.pc < (g.f f.fn).n
 op:(g.f f.fn).op f.pc=k
 ar:(g.f f.fn).ar f.pc=a
 k28:k < 28
 pops:O1 k (g.f a.toNat).p=n
 call:(k:Int)=14->0<=a/\a < g.n
theorem C0.later {rest args:List Val} {va:Option Addr} {sb:Nat} (h:C0 w own mb g R fs f rest args va sb) (hB:L0d w W):C0 W own mb g R fs f rest args va sb :=
 ⟨h.m.same hB.size fun k hk=>hB.block k hk,h.hf,h.hst,fun h0=>by
  obtain⟨q1,q2,q3⟩:=h.hva h0;refine⟨q1,q2,fun j x hx=>?_⟩;rw[hB.cell (p:=⟨sb,_,none⟩) (h.m.lt sb _ q2),hB.cell (p:=⟨sb,_,none⟩) (h.m.lt sb _ q2)];exact q3 j x hx,h.hn,h.hs,h.hpc⟩
def a2b (w:World) (own:Own) (mb:Nat) (g:PgR) (R:McR) (fs:List FrR) (f:FrR) (rest args:List Val) (e:Ending) (w':World):Prop :=
 ∃va vc sb,e=.returned (.slice va args.length vc)/\C0 w' own mb g R fs f rest args va sb/\L0d w w'
theorem a5v (h:A4 w own mb g R) (hf:R.frs=fs++[f]) (rest args:List Val) (hst:f.stk=rest++args) (hn:fs.length<=1000) (hs:f.stk.length<=1000) (hpc:f.pc<=1000) :
  Calls prog 179 #[.pointer (some ⟨mb,3,none⟩),.int .i64 (args.length:Int)] w fun e w'=>a2b w own mb g R fs f rest args e w':=by
 obtain⟨cb,cc,hv,xc,xh,xg,x0,x1,x2,x3⟩:=h.top hf;have c3:=h.c3;rw[hv] at c3;have xa:=h.stk fs.length f (by rw [hf];simp);have xb:f.stk.length=rest.length+args.length:=by rw [hst];simp
 rcases id xa.1.2 with ⟨e0,e1⟩ | ⟨sb,sc,xi,e0,_,hg,xe,_⟩
 ·have ha:args=[]:=List.length_eq_zero_iff.1 R4
  subst ha;rw[e0] at x3;refine (a5w mb cb fs.length cc w hn c3 x3).mono ?_;rintro e w' ⟨rfl,m,rfl⟩;have hB:L0d w (w.drewN m):=Below.drewQ (L3b _ _) _;exact⟨none,0,0,rfl,⟨h.same hB.size fun k hk=>hB.block k hk,hf,hst,fun h0=>by simp at h0,hn,hs,hpc⟩,hB⟩
 ·rw [e0] at x3 xa
  refine (a5x mb cb fs.length cc sb f.stk.length sc args.length w hn hs xe R4 c3 x3).mono ?_;rintro e w' ⟨va,vc,rfl,xd,m,rfl⟩;have hB:L0d w (w.drewN m):=Below.drewQ (L3b _ _) _;refine⟨va,vc,sb,rfl,⟨h.same hB.size fun k hk=>hB.block k hk,hf,hst,fun h0=>⟨?_,xa.2 sb rfl,fun j x hx=>?_⟩,hn,hs,hpc⟩,hB⟩
  ·rw [xd h0,xb,Nat.add_sub_cancel]
  ·have hj:j < args.length:=(L1a.1 hx).1
   have xf:f.stk[rest.length+j]?=some x:=by rw [hst,List.getElem?_append_right R4,Nat.add_sub_cancel_left];exact hx
   have e2:∀i,i < 2->w.cell? ⟨sb,(rest.length+j)*2+i,none⟩=(O4 x)[i]?:=fun i hi=>by
    rw[xa.1.cellAt _ R4];exact E0 F7 xf hi
   have e3:=e2 0 R4;have e4:=e2 1 R4;rw[show (rest.length+j)*2=rest.length*2+j*2 by omega] at e3 e4;exact⟨e3,e4⟩
end
section
variable {u v:Value} {w:World}
theorem fW {a p:Addr} (h:w.cell? a=some v) (hn:a.block≠p.block):(w.setCell p u).cell? a=some v:=by
 rw[L0b (w:=w) (heap_setCell_other _ _ _ _ hn)];exact h
theorem a2l {b:Nat} (h:w.cell? ⟨b,0,none⟩=some v):(w.setCell ⟨b,1,none⟩ u).cell? ⟨b,0,none⟩=some v:=by go_simp
theorem a3G {own:Own} {mb:Nat} {g:PgR} {R:McR} {fs:List FrR} {f:FrR} (h:A4 w own mb g R) (hf:R.frs=fs++[f]) (k:Nat) (a:Int) (rest args:List Val) (hst:f.stk=rest++args) (hx:a4r g f k a args.length) (hn:fs.length<=1000) (hs:f.stk.length<=1000) (hpc:f.pc<=1000) (hgn:g.n<=1000) (hcn:(g.f f.fn).n<=1000)
  (P:McR->Prop) (st:Int) (HD:Hid (∀W va vc sb,L0d w W->C0 W own mb g R fs f rest args va sb->Calls prog (doT k) #[.pointer (some ⟨mb,0,none⟩),.int .i64 a,.slice va args.length vc] W fun e w'=>X7 own mb g P st W e w')) :
  Calls prog 136 #[.pointer (some ⟨mb,0,none⟩)] w fun e w'=>gV own mb g (fun R'=>∃Q,P Q/\R'={ Q with st:=st }) w e w':=by
 obtain⟨cb,cc,hv,yo,xw,yb,x0,x1,x2,x3⟩:=h.top hf;have c3:=h.c3;rw[hv] at c3;have xs:mb < w.heap.size:=h.lt mb _ h.me;have c0:=h.c0;obtain⟨ga,yf,xg⟩:=h.pg.2.1 (by have:=hx.fn;omega);obtain⟨q0,q1,q2⟩:=xg f.fn hx.fn;obtain⟨fa,xu,xd⟩:=(h.pg.2.2 f.fn hx.fn).2 (by have:=hx.pc;omega);obtain⟨i0,i1⟩:=xd f.pc hx.pc;rw[ga] at c0;rw[fa] at q2;rw[hx.op] at i0;rw[hx.ar] at i1;have ys:=hx.fn;have yi:=hx.pc
 have xf:=hx.k28;obtain⟨t0,t1,t2,t3,t4⟩:=h.tab.2 k xf;have xn:=h.tab.1;clear q0 q1 t0 t1 t2 t3 x2 x3 xd xg;have HH:=hid h;have HF:=hid hf;have HV:=hid hv;have HX:=hid hx;have yu:=hid yb;have xy:=hid ga;clear h hf hv hx yb ga fa;go_enter func136,ntmps136;go_wp2_with fail;refine (K3 mb cb fs.length cc _ hn c3).mono ?_;rintro e W ⟨rfl,m1,hW⟩;have xz:L0d w W:=by rw [hW];exact Below.drewQ (L3b _ _) _
 have xc:∀ad,W.cell? ad=w.cell? ad:=fun ad=>by rw [hW];rfl
 have xp:W.heap.size=w.heap.size:=by rw [hW];rfl
 rw[<- xc] at c3 x0 x1 c0 q2 i0 i1 t4;rw[<- xp] at xs xw yf xu xn;have HW:=hid xz;have xr:=hid xp;clear hW xc xz xp;have xk:Hid (∀V,L0d w V->Calls prog 180 #[.agg #[.slice (some ⟨g.b,g.o,none⟩) g.n g.c],.agg #[.int .i64 (k:Int),.int .i64 a]] V fun e w'=>e=.returned (.int .i64 (args.length:Int))/\L0d V w'):=by
  intro V hV;have hm:=HH.out.same hV.size fun k hk=>hV.block k hk
  have:=mF V.heap.size g k a V (L1c _) hm.pg hm.tab xf HX.out.call;rw[xy.out,HX.out.pops] at this;exact this
 have xm:Hid (∀V,L0d w V->Calls prog 179 #[.pointer (some ⟨mb,3,none⟩),.int .i64 (args.length:Int)] V fun e w'=>a2b V own mb g R fs f rest args e w'):=by
  intro V hV;exact a5v (HH.out.same hV.size fun k hk=>hV.block k hk) HF.out rest args hst hn hs hpc
 have yq:=hid hst;clear hst;go_wp2_with fail;go_region
 clear x0 x1 q2 i0 i1;generalize hqV:(W.alloc (Obj.cells #[.int .i64 (k:Int),.int .i64 a] 165)).drew=V at *
 have j0:V.cell? ⟨W.heap.size,0,none⟩=some (.int .i64 (k:Int)):=by subst hqV;go_simp
 have j1:V.cell? ⟨W.heap.size,1,none⟩=some (.int .i64 a):=by subst hqV;go_simp
 have xl:L0d W V:=by subst hqV;exact L3c (L3a (L3b _ _) (L1c _) _)
 have ym:V.heap.size=W.heap.size+1:=by subst hqV;simp
 clear hqV;rw[<- xl.cell (p:=⟨mb,_,none⟩) xs] at c0 c3;rw[<- xl.cell (p:=⟨0,_,none⟩) xn] at t4;have xv:L0d w V:=HW.out.trans (xl.mono (by have:=xr.out;omega));have yg:=hid xv;have l1:mb < V.heap.size:=by omega
 have l2:0 < V.heap.size:=by omega
 have l3:W.heap.size < V.heap.size:=by omega
 have xt:=a0m xf;clear xl xv ym xs xn xw yf xu;go_wp2_with fail;have yr:(0:Int)<=k:=by omega
 have yt:(k:Int) < 28:=by omega
 have n1:Hid ((0:Nat)≠mb):=fun e=>by have:=HH.out.me;rw [<- e,HH.out.ro0] at this;cases this
 have n2:Hid (W.heap.size≠mb):=fun e=>by have:=HH.out.lt mb _ HH.out.me;have:=xr.out;omega
 have xx:Hid (own W.heap.size=none):=HH.out.new (by have:=xr.out;omega);go_region_held3 (fun u=>u.cell? ⟨0,k*5+4,none⟩=some (.func (.func (doT k)) #[] #[])/\u.cell? ⟨W.heap.size,0,none⟩=some (.int .i64 (k:Int))/\u.cell? ⟨W.heap.size,1,none⟩=some (.int .i64 a)/\u.cell? ⟨mb,0,none⟩=some (.slice (some ⟨g.b,g.o,none⟩) g.n g.c)) (first | go_keep | exact ⟨fW z1 n1.out,fW z2 n2.out,fW z3 n2.out,a2l z4⟩) (first | (go_at_call 180;refine (xk.out _ ?_).mono ?_;exact (by repeat (first | exact yg.out | refine L3c ?_));rintro e w2 ⟨rfl,xa⟩;have s1:=(xa.cell (p:=⟨0,k*5+4,none⟩) l2).trans t4;have s2:=(xa.cell (p:=⟨W.heap.size,0,none⟩) l3).trans j0;have s3:=(xa.cell (p:=⟨W.heap.size,1,none⟩) l3).trans j1;have s4:=(xa.cell (p:=⟨mb,0,none⟩) l1).trans c0;have yj:=hid (L0a l1 xa.size);have ye:=hid (L0a l2 xa.size);have xq:=hid (L0a l3 xa.size);have xh:Hid (L0d w w2):=A7 xa (by repeat (first | exact yg.out | refine L3c ?_));clear xa) | (go_at_call 179;refine (xm.out _ xh.out).mono ?_;rintro e w3 ⟨va,vc,sb,rfl,yd,xb⟩;have r1:=(xb.cell (p:=⟨0,k*5+4,none⟩) ye.out).trans s1;have r2:=(xb.cell (p:=⟨W.heap.size,0,none⟩) xq.out).trans s2;have r3:=(xb.cell (p:=⟨W.heap.size,1,none⟩) xq.out).trans s3;have r4:=(xb.cell (p:=⟨mb,0,none⟩) yj.out).trans s4;have xi:Hid (L0d w w3):=A7 xb xh.out;have yh:Hid (W.heap.size < w3.heap.size):=L0a xq.out xb.size;have yn:Hid (0 < w3.heap.size):=L0a ye.out xb.size;have yk:=hid yd;clear yd xb) | (refine (HD.out _ va vc sb xi.out yk.out).mono ?_;rintro e w5 ⟨xo,R',rfl,xe,ya,xj⟩;have z1:=(L0b (w:=w3) (w':=w5) (a:=⟨0,k*5+4,none⟩) (xj.block 0 yn.out HH.out.ro0)).trans r1;have z2:=(L0b (w:=w3) (w':=w5) (a:=⟨W.heap.size,0,none⟩) (xj.block _ yh.out xx.out)).trans r2;have z3:=(L0b (w:=w3) (w':=w5) (a:=⟨W.heap.size,1,none⟩) (xj.block _ yh.out xx.out)).trans r3;have z4:=xe.c0;rw [xy.out] at z4;have y1:=xe.c1;have y2:=xe.fz 1;have y3:=xe.lt mb _ xe.me;have yc:=hid xe;have yp:=hid ya;have yl:=hid xj;clear xe ya xj))
 all_goals
  clear z1 z2 z3 z4 y1 y2 y3 r1 r2 r3 r4 s1 s2 s3 s4 t4 j0 j1 c0 c3;go_wp2_with fail;go_end0
  exact⟨xo,{ R' with st:=st },rfl,yc.out.setCell 1 _ (L4a ⟨rfl,rfl,rfl⟩),⟨R',yp.out,rfl⟩,((A2.of_below xi.out).trans yl.out).trans (A2.setMb yc.out.me _ _)⟩
end
section
variable {R:McR} {args rest:List Val} {f:FrR} {fs:List FrR} {g:PgR} {mb sb:Nat} {own:Own} {va:Option Addr} {w:World} {x:Val}
theorem vP {f:FrR} (pc:Nat) (v:Value) (l:List Val) :
  (fs++[{ f with pc:=pc,sv:=v,stk:=l }]).flatMap FrR.cells=(((fs++[f]).flatMap FrR.cells).set (fs.length*4+3) v).set (fs.length*4+1) (.int .i64 pc):=by
 have:=oG (fs:=fs) (f:=f) pc v v l;rwa [List.set_set] at this
theorem a2C (h:A4 w own mb g R) (hf:R.frs=fs++[f]) (k:Nat) (hk:k<=f.stk.length) (pc:Nat)
  (hn:fs.length<=1000) (hs:f.stk.length<=1000) :
  Calls prog 297 #[.pointer (some ⟨mb,3,none⟩),.int .i64 (k:Int),.int .i64 (pc:Int)] w fun e w'=>C3 own mb g R fs f pc (f.stk.take (f.stk.length - k)) (.tuple #[]) w e w':=by
 obtain⟨cb,cc,hv,xa,xs,xk,x0,x1,x2,x3⟩:=h.top hf;have hc:=h.c3;rw[hv] at hc;have xh:=h.topRow hf hv;have xu:mb < w.heap.size:=h.lt mb _ h.me;have xt:mb≠cb:=fun e=>by have:=h.me;rw [e,xa] at this;cases this
 have xf:=h.stk fs.length f (by rw [hf];simp);have xn:∀b,f.sv.ownBlock=some b->b≠cb/\own b=some (.stk fs.length):=fun b hb=>by
  have xl:=xf.2 b hb;exact⟨fun e=>(by rw [e,xa] at xl;cases xl),xl⟩
 have xg:=xk (fs.length*4+3);have xo:=xk (fs.length*4+1);go_enter func297,ntmps297;go_wp2_with fail;refine (lO mb cb fs.length cc f.sv f.stk.length k _ w hn hs hk hc x3 xg xf.1).mono ?_;rintro e w1 ⟨m1,xc,rfl,xb,xp,xd⟩;have xe:xc.ownBlock≠some cb:=fun e=>(xn cb (xp▸e)).1 rfl
 have d0:w1.cell? ⟨mb,3,none⟩=some (.slice (some ⟨cb,0,none⟩) (fs.length+1) cc):=by rw [xb];go_simp
 have d1:w1.cell? ⟨cb,fs.length*4+1,none⟩=some (.int .i64 (f.pc:Int)):=by rw [xb];go_simp
 have z1:w1.frozen? ⟨cb,fs.length*4+1,none⟩=false:=by rw [xb];go_simp
 have o1:w1.ownsRow 0 92 2 xc (f.stk.length - k) (A5 (f.stk.take (f.stk.length - k))):=by
  rw[xb,A5,eQ F7];exact ownsRow_setCell_other (bC xd m1) xe _
 have r1:w1.ownsRow 0 86 4 (.slice (some ⟨cb,0,none⟩) (fs.length+1) cc) (fs.length+1) (((fs++[f]).flatMap FrR.cells).set (fs.length*4+3) xc):=by
  rw[xb];exact (World.ownsRow.stored (bC xh m1) _ xc).1
 have s1:w1.heap.size=w.heap.size:=by rw [xb];simp
 have k1:∀b,b≠cb->w1.heap[b]?=w.heap[b]?:=fun b hb=>by rw [xb];exact heap_setCell_other _ _ _ _ hb
 have e1:w1.os=w.os/\w1.tape=w.tape/\w1.output=w.output:=by rw [xb];exact ⟨rfl,rfl,rfl⟩
 have xr:cb < w1.heap.size:=by omega
 have xj:Hid (∀q,C3 own mb g R fs f pc (f.stk.take (f.stk.length - k)) (.tuple #[]) w (.returned (.tuple #[])) ((w1.drewN q).setCell ⟨cb,fs.length*4+1,none⟩ (.int .i64 (pc:Int)))):=by
  intro q;have xq:E3 w own xc (.stk fs.length):=fun b hb=>L4a (xn b (xp▸hb)).2
  have xm:(f.stk.take (f.stk.length - k)).length=f.stk.length - k:=by simp
  have r2:=(World.ownsRow.stored (bC r1 q) (fs.length*4+1) (.int .i64 (pc:Int))).1;rw[<- vP pc xc (f.stk.take (f.stk.length - k))] at r2;refine⟨_,xc,rfl,A4.setTop (f':={ f with pc:=pc,sv:=xc,stk:=f.stk.take (f.stk.length - k) }) h hf rfl rfl (by simp [s1]) (fun j hj h1 h2=>?_) (by rw [hv];exact r2) (by rw [xm];exact ownsRow_setCell_other (bC o1 q) xe _) xq,?_⟩
  ·have xi:j≠cb:=fun e=>h1 (by rw [e];exact xa)
   rw[heap_setCell_other _ _ _ _ xi];exact k1 j xi
  ·refine ⟨e1.1,e1.2.1,e1.2.2,by simp [s1],fun j hj hno=>?_,fun j hj=>Own.upd_old xq hj⟩
   have xi:j≠cb:=fun e=>by rw [e,xa] at hno;cases hno
   rw[heap_setCell_other _ _ _ _ xi];exact k1 j xi
 clear xb x0 x1 x2 x3 hc xg xo xk xh xf xd h hf hv xn xp xe o1 r1 s1 k1 e1 xa;go_wp2_with (go_at_call 178;refine (K3 mb cb fs.length cc _ hn d0).mono ?_;rintro e w2 ⟨rfl,m2,rfl⟩)
 go_end0
 exact xj.out _
theorem C0.goTo {W:World} (h:C0 w own mb g R fs f rest args va sb) (hB:L0d w W) (k:Nat) (hk:args.length=k) (pc:Nat) :
  Calls prog 297 #[.pointer (some ⟨mb,3,none⟩),.int .i64 (k:Int),.int .i64 (pc:Int)] W fun e w'=>C3 own mb g R fs f pc rest (.tuple #[]) w e w':=by
 subst hk;have hl:args.length<=f.stk.length:=by rw [h.hst];simp
 refine (a2C (h.m.same hB.size fun k hk=>hB.block k hk) h.hf args.length hl pc h.hn h.hs).mono ?_;rintro e w' ⟨xa,xc,rfl,xb,ht⟩;have he:f.stk.take (f.stk.length - args.length)=rest:=by rw [h.hst];simp
 rw[he] at xb;exact⟨xa,xc,rfl,xb,(A2.of_below hB).trans ht⟩
theorem lL (h:C0 w own mb g R fs f rest args va sb) (pc vc:Nat) :
  Calls prog 271 #[.pointer (some ⟨mb,0,none⟩),.int .i64 (pc:Int),.slice va args.length vc] w fun e w'=>C3 own mb g R fs f pc rest (.int .i64 0) w e w':=by
 have HG:=hid (h.goTo (L3b _ _) args.length rfl pc);clear h;go_enter func271,ntmps271;go_wp2_with (go_at_call 297;refine HG.out.mono ?_;rintro e w' ⟨xa,xb,rfl,hm,ht⟩)
 go_ret;exact⟨xa,xb,rfl,hm,ht⟩
def L0 (x:Val):Bool:=x.1 == 2 || x.2 != 0
theorem pG (h:C0 w own mb g R fs f rest [x] va sb) (hx:L0 x=true) (pc vc:Nat) :
  Calls prog 272 #[.pointer (some ⟨mb,0,none⟩),.int .i64 (pc:Int),.slice va 1 vc] w fun e w'=>C3 own mb g R fs f (f.pc+1) rest (.int .i64 0) w e w':=by
 obtain⟨o,rfl,xc,c0,c1⟩:=h.one;obtain⟨x1,x2⟩:=x;simp only at c0 c1;have HH:=hid h;clear h
 cases h1:(x1 == 2)
 ·have h2:(x2 != 0)=true:=by simpa [L0,h1] using hx
  clear hx;go_enter func272,ntmps272;go_wp2_with (first | (go_at_call 164;refine (S7 _ _ _).mono ?_;rintro e w' ⟨rfl,o3,rfl⟩) | (go_at_call 290;refine (HH.out.answer P7 vc _ [] (U8 _ _) R5 1 rfl).mono ?_;rintro e w' ⟨xa,xb,rfl,hm,ht⟩))
  go_ret;exact⟨xa,xb,rfl,by rw [List.append_nil] at hm;exact hm,ht⟩
 ·clear hx
  go_enter func272,ntmps272;go_wp2_with (first | (go_at_call 164;refine (S7 _ _ _).mono ?_;rintro e w' ⟨rfl,o3,rfl⟩) | (go_at_call 290;refine (HH.out.answer P7 vc _ [] (U8 _ _) R5 1 rfl).mono ?_;rintro e w' ⟨xa,xb,rfl,hm,ht⟩))
  go_ret;exact⟨xa,xb,rfl,by rw [List.append_nil] at hm;exact hm,ht⟩
theorem nF (h:C0 w own mb g R fs f rest [x] va sb) (hx:L0 x=false) (pc vc:Nat) :
  Calls prog 272 #[.pointer (some ⟨mb,0,none⟩),.int .i64 (pc:Int),.slice va 1 vc] w fun e w'=>C3 own mb g R fs f pc rest (.int .i64 0) w e w':=by
 obtain⟨o,rfl,xc,c0,c1⟩:=h.one;obtain⟨x1,x2⟩:=x;simp only at c0 c1;have HJ:Hid (∀W,L0d w W->Calls prog 271 #[.pointer (some ⟨mb,0,none⟩),.int .i64 (pc:Int),.slice (some ⟨sb,o,none⟩) 1 vc] W fun e w'=>C3 own mb g R fs f pc rest (.int .i64 0) W e w'):=fun W hW=>lL (h.later hW) pc vc
 clear h;have h1:(x1 == 2)=false:=by
  cases e:(x1 == 2)
  ·rfl
  ·simp [L0,e] at hx
 have h2:(x2 != 0)=false:=by
  cases e:(x2 != 0)
  ·rfl
  ·simp [L0,e] at hx
 clear hx;go_enter func272,ntmps272;go_wp2_with (first | (go_at_call 164;refine (S7 _ _ _).mono ?_;rintro e w' ⟨rfl,o3,rfl⟩) | (go_at_call 271;refine (HJ.out _ ?_).mono ?_;exact P7;rintro e w' ⟨xa,xb,rfl,hm,ht⟩;have HT:Hid (A2 own w xa w'):=(A2.of_below P7).trans ht))
 go_ret;exact⟨xa,xb,rfl,hm,HT.out⟩
end
end Go.Proofs.YtbkmgoffiigdbaaGreatDoor
