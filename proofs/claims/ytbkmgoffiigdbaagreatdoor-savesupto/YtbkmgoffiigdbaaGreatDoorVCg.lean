import Derived.Test.YtbkmgoffiigdbaaGreatDoorVBg
namespace Go.Proofs.YtbkmgoffiigdbaaGreatDoor
open Go.RowKit Go.Sort Go.Proofs.Tryz
set_option maxHeartbeats 4000000
set_option maxRecDepth 100000
section
variable {w w':World}
structure I0 where
 B:Nat->Prop
 F:World->Prop
 lt:∀w,F w->∀k,B k->k < w.heap.size
 keep:∀w w',F w->w.heap.size<=w'.heap.size->(∀k,k < w.heap.size->B k\/k=0->w'.heap[k]?=w.heap[k]?)->F w'
def I0.none:I0:=⟨fun _=>False,fun _=>True,fun _ _ _ h=>h.elim,fun _ _ _ _ _=>trivial⟩
abbrev A5:=Nat × Nat->I0
structure Sep (P:A5) (w:World):Prop where
 pos:0 < w.heap.size
 F:∀i,(P i).F w
 dis:∀i j k,(P i).B k->(P j).B k->i=j
 z:∀i,¬(P i).B 0
def A5.put (P:A5) (i:Nat × Nat) (p:I0):A5:=fun j=>if j=i then p else P j
theorem A5.put_same (P:A5) (i:Nat × Nat) (p:I0):P.put i p i=p:=if_pos rfl
theorem A5.put_ne (P:A5) {i j:Nat × Nat} (h:j≠i) (p:I0):P.put i p j=P j:=if_neg h
theorem Sep.later {P:A5} (h:Sep P w) (hs:w.heap.size<=w'.heap.size) (hk:∀k,k < w.heap.size->((∃i,(P i).B k)\/k=0)->w'.heap[k]?=w.heap[k]?):Sep P w' :=
 ⟨L0a h.pos hs,fun i=>(P i).keep w w' (h.F i) hs fun k hk1 hk2=>hk k hk1 (hk2.imp (fun hb=>⟨i,hb⟩) id),h.dis,h.z⟩
theorem Sep.below {P:A5} (h:Sep P w) (hB:L0d w w'):Sep P w':=h.later hB.size fun k hk _=>hB.block k hk
theorem Sep.upd {P:A5} (h:Sep P w) (i:Nat × Nat) (p:I0) (hs:w.heap.size<=w'.heap.size) (hk:∀k,k < w.heap.size->¬(P i).B k->w'.heap[k]?=w.heap[k]?) (hF:p.F w') (hB:∀k,p.B k->(P i).B k\/w.heap.size<=k):Sep (P.put i p) w':=by
 have hp:=h.pos;have xa:∀j k,j≠i->(P j).B k->¬p.B k:=fun j k hj hb hpb=>by
  rcases hB k hpb with hc | hc
  ·exact hj (h.dis j i k hb hc)
  ·have:=(P j).lt w (h.F j) k hb;omega
 refine⟨L0a hp hs,fun j=>?_,fun j l k hj hl=>?_,fun j hj=>?_⟩
 ·by_cases e:j=i
  ·subst e;rw [A5.put_same];exact hF
  ·rw [A5.put_ne P e]
   refine (P j).keep w w' (h.F j) hs fun k hk1 hk2=>hk k hk1 fun hc=>?_
   rcases hk2 with hk2 | rfl
   ·exact e (h.dis j i k hk2 hc)
   ·exact h.z i hc
 ·by_cases e:j=i
  ·by_cases e':l=i
   ·rw [e,e']
   ·rw [e,A5.put_same] at hj
    rw[A5.put_ne P e'] at hl;exact (xa l k e' hl hj).elim
  ·rw [A5.put_ne P e] at hj
   by_cases e':l=i
   ·rw [e',A5.put_same] at hl
    exact (xa j k e hj hl).elim
   ·rw [A5.put_ne P e'] at hl
    exact h.dis j l k hj hl
 ·by_cases e:j=i
  ·rw [e,A5.put_same] at hj
   rcases hB 0 hj with hc | hc
   ·exact h.z i hc
   ·omega
  ·rw [A5.put_ne P e] at hj
   exact h.z j hj
theorem Sep.fresh {P:A5} (h:Sep P w) (i:Nat × Nat) (p:I0) (hF:p.F w) (hz:¬p.B 0) (hB:∀k,p.B k->∀j,j≠i->¬(P j).B k):Sep (P.put i p) w:=by
 refine⟨h.pos,fun j=>?_,fun j l k hj hl=>?_,fun j hj=>?_⟩
 ·by_cases e:j=i
  ·subst e;rw [A5.put_same];exact hF
  ·rw [A5.put_ne P e];exact h.F j
 ·by_cases e:j=i
  ·by_cases e':l=i
   ·rw [e,e']
   ·rw [e,A5.put_same] at hj
    rw[A5.put_ne P e'] at hl;exact (hB k hj l e' hl).elim
  ·rw [A5.put_ne P e] at hj
   by_cases e':l=i
   ·rw [e',A5.put_same] at hl
    exact (hB k hl j e hj).elim
   ·rw [A5.put_ne P e'] at hl
    exact h.dis j l k hj hl
 ·by_cases e:j=i
  ·rw [e,A5.put_same] at hj;exact hz hj
  ·rw [A5.put_ne P e] at hj;exact h.z j hj
def Y3 (own:Own) (mb:Nat) (g:PgR) (R:McR):I0 :=
 ⟨fun k=>own k≠none\/g.blk k,fun w=>A4 w own mb g R,fun w h k hk=>by
  rcases hk with hk | hk
  ·cases e:own k with
   | none=>exact (hk e).elim
   | some t=>exact h.lt k t e
  ·exact h.pg.blk_lt hk,fun w w' h hs hk=>h.beside hs fun k hl hb=>hk k hl (by rcases hb with hb | hb | hb;exact L4a (L4a hb);exact L4a (L4b hb);exact L4b hb)⟩
theorem dP {own own':Own} {mb:Nat} {g:PgR} {R R':McR} (_h:A4 w own mb g R) (hT:A2 own w own' w') :
  (∀k,k < w.heap.size->¬(Y3 own mb g R).B k->w'.heap[k]?=w.heap[k]?)/\∀k,(Y3 own' mb g R').B k->(Y3 own mb g R).B k\/w.heap.size<=k:=by
 refine⟨fun k hk hn=>hT.block k hk (Decidable.byContradiction fun e=>hn (L4a e)),fun k hk=>?_⟩;by_cases hl:w.heap.size<=k
 ·exact L4b hl
 ·rcases hk with hk | hk
  ·rw [hT.old k R5] at hk;exact L4a (L4a hk)
  ·exact L4a (L4b hk)
def eY (own:Own) (mb:Nat) (g:PgR) (R:RfR):I0 :=
 ⟨fun k=>own k≠none\/g.blk k\/∃o,R.da=some ⟨k,o,none⟩,fun w=>A9 w own mb g R,fun w h k hk=>by
  rcases hk with hk | hk | ⟨o,hk⟩
  ·cases e:own k with
   | none=>exact (hk e).elim
   | some t=>exact h.lt k t e
  ·exact h.pg.blk_lt hk
  ·exact (h.dro k o hk).1,fun w w' h hs hk=>h.aside hs (fun k t e=>hk k (h.lt k t e) (L4a (L4a (by rw [e];simp)))) (fun k _ hb=>by
   rcases hb with hb | hb | ⟨o,hb⟩
   ·exact hk k (h.pg.blk_lt hb) (L4a (L4b (L4a hb)))
   ·subst hb
    by_cases h0:0 < w.heap.size
    ·exact hk 0 h0 (L4b rfl)
    ·have:=h.lt _ _ h.me;omega
   ·exact hk k (h.dro k o hb).1 (L4a (L4b (L4b ⟨o,hb⟩))))⟩
end
section
variable {B e hi n nb sz te:Nat} {lits:List (Nat × Nat)} {res vs:List (Value × Nat)} {v:Value} {w w' w0:World} {xs zc:List Value} {zv:Nat->Value}
def Zed (w:World) (zv:Nat->Value) (v:Value) (hi:Nat):Prop:=∀b,v.ownBlock=some b->∀off,off < hi->w.cell? ⟨b,off,none⟩=some (zv off)
theorem Zed.zero (w:World) (zv:Nat->Value) (v:Value):Zed w zv v 0:=fun _ _ _ h=>by omega
theorem Zed.set (h:Zed w zv v hi) (b off:Nat):Zed (w.setCell ⟨b,off,none⟩ (zv off)) zv v hi:=fun b' hb' off' ho=>by
 have h0:=h b' hb' off' ho;by_cases e:(⟨b,off,none⟩:Addr)=⟨b',off',none⟩
 ·simp only [Addr.mk.injEq] at e
  obtain⟨rfl,rfl,_⟩:=e;exact World.cell?_setCell_same _ _ _ h0
 ·exact (World.cell?_setCell_other _ _ _ _ e).trans h0
theorem Zed.next {b:Nat} (h:Zed w zv v hi) (hb:v.ownBlock=some b) (hc:∃z,w.cell? ⟨b,hi,none⟩=some z):Zed (w.setCell ⟨b,hi,none⟩ (zv hi)) zv v (hi+1):=fun b' hb' off' ho=>by
 rw[hb] at hb';obtain rfl:=L5b hb';by_cases e:off'=hi
 ·subst e
  obtain⟨z,hz⟩:=hc;exact World.cell?_setCell_same _ _ _ hz
 ·exact h.set b hi b hb off' R5
theorem Zed.block (h:Zed w zv v hi) (hb:∀b,v.ownBlock=some b->w'.heap[b]?=w.heap[b]?):Zed w' zv v hi:=fun b e off ho=>(L0b (a:=⟨b,off,none⟩) (hb b e)).trans (h b e off ho)
theorem Has.set (h:Has w B e sz v n) (b off:Nat) (u:Value):Has (w.setCell ⟨b,off,none⟩ u) B e sz v n:=by
 by_cases hb:v.ownBlock=some b
 ·obtain ⟨xs,hx⟩:=h
  rcases hx.2 with ⟨h0,_⟩ | ⟨g,xa,xb,hv,_⟩
  ·rw [h0] at hb;cases hb
  ·subst hv
   obtain rfl:g=b:=by simpa [Value.ownBlock] using hb
   exact⟨_,(hx.stored off u).1⟩
 ·exact h.block fun b' hb'=>heap_setCell_other _ _ _ _ fun e=>hb (by rw [hb',e])
theorem Has.form (h:Has w B e sz v n):∃a c,v=.slice a n c/\n<=c/\(0 < n->∃b,a=some ⟨b,0,none⟩/\v.ownBlock=some b/\b < w.heap.size/\(∀j,w.frozen? ⟨b,j,none⟩=false)/\∀j,j < n*sz->∃z,w.cell? ⟨b,j,none⟩=some z):=by
 obtain⟨xs,hx⟩:=h;rcases hx.2 with ⟨h0,h1⟩ | ⟨g,xa,xb,hv,h2⟩
 ·exact ⟨none,0,by rw [h0,h1],by omega,fun h=>by omega⟩
 ·subst hv
  exact⟨_,xa,rfl,h2.2.2.1,fun _=>⟨g,rfl,rfl,(hx.lt g rfl).2,fun j=>hx.frozenAt j,fun j hj=>cell_of_ownsG hx hj⟩⟩
 where
 cell_of_ownsG {w:World} {B e sz b n c:Nat} {xs:List Value} (h:w.ownsRow B e sz (.slice (zA b) n c) n xs) {j:Nat} (hj:j < n*sz):∃z,w.cell? ⟨b,j,none⟩=some z:=by
  have:=h.cellAt j hj;rw[this];exact⟨_,L1b (by rw [h.1];exact hj)⟩
structure aK (w:World) (e sz te:Nat) (zv:Nat->Value) (nb:Nat) (vs:List (Value × Nat)):Prop where
 blk:w.heap[nb]?=some (.cells (vs.map Prod.fst).toArray te (0,0))
 has:∀p,p∈vs->Has w 0 e sz p.1 p.2
 zed:∀p,p∈vs->Zed w zv p.1 (p.2*sz)
def a2z (nb:Nat) (vs:List (Value × Nat)) (k:Nat):Prop:=k=nb\/∃p,p∈vs/\p.1.ownBlock=some k
theorem aK.lt (h:aK w e sz te zv nb vs):∀k,a2z nb vs k->k < w.heap.size:=fun k hk=>by
 rcases hk with rfl | ⟨p,hp,hb⟩
 ·exact (L2b.1 h.blk).1
 ·obtain ⟨xs,hx⟩:=h.has p hp
  exact (hx.lt k hb).2
theorem aK.keep (h:aK w e sz te zv nb vs) (hk:∀k,k < w.heap.size->a2z nb vs k->w'.heap[k]?=w.heap[k]?):aK w' e sz te zv nb vs :=
 ⟨(hk nb (h.lt nb (L4a rfl)) (L4a rfl)).trans h.blk,fun p hp=>(h.has p hp).block fun b hb=>hk b (h.lt b (L4b ⟨p,hp,hb⟩)) (L4b ⟨p,hp,hb⟩),fun p hp=>(h.zed p hp).block fun b hb=>hk b (h.lt b (L4b ⟨p,hp,hb⟩)) (L4b ⟨p,hp,hb⟩)⟩
def iU (e sz te:Nat) (zv:Nat->Value) (nb:Nat) (vs:List (Value × Nat)):I0 :=
 ⟨a2z nb vs,fun w=>aK w e sz te zv nb vs,fun _ h=>h.lt,fun _ _ h _ hk=>h.keep fun k hl hb=>hk k hl (L4a hb)⟩
structure Stt (w0 w:World) (B e sz:Nat) (v:Value) (n:Nat) (xs zc:List Value) (lits:List (Nat × Nat)) (res:List (Value × Nat)):Prop where
 own:w.ownsRow B e sz v n xs
 os:w.os=w0.os
 tape:w.tape=w0.tape
 output:w.output=w0.output
 size:w0.heap.size<=w.heap.size
 vlt:∀b,v.ownBlock=some b->b < w0.heap.size
 keep:∀k,k < w0.heap.size->v.ownBlock≠some k->w.heap[k]?=w0.heap[k]?
 lit:∀p,p∈lits->w0.heap.size<=p.1/\w.heap[p.1]?=some (.cells ((List.replicate p.2 zc).flatten).toArray e (0,0))
 res:∀p,p∈res->Has w B e sz p.1 p.2/\∀b,p.1.ownBlock=some b->v.ownBlock=some b\/w0.heap.size<=b
theorem Stt.start (h:w.ownsRow B e sz v n xs):Stt w w B e sz v n xs zc [] [(v,n)] :=
 ⟨h,rfl,rfl,rfl,L1c _,fun b hb=>(h.lt b hb).2,fun _ _ _=>rfl,fun p hp=>(by cases hp),fun p hp=>by
  rw[List.mem_singleton] at hp;subst hp;exact⟨⟨xs,h⟩,fun b hb=>L4a hb⟩⟩
theorem Stt.build (h:Stt w0 w B e sz v n xs zc lits res) (m:Nat):Stt w0 (w.alloc (.cells ((List.replicate m zc).flatten).toArray e (0,0))) B e sz v n xs zc ((w.heap.size,m)::lits) res:=by
 have hk:∀k,k < w.heap.size->(w.alloc (.cells ((List.replicate m zc).flatten).toArray e (0,0))).heap[k]?=w.heap[k]?:=fun k hk=>Below.heap_alloc _ _ _ hk
 have hs:=h.size;refine⟨A6 h.own fun b hb=>hk b (h.own.lt b hb).2,h.os,h.tape,h.output,by simp;omega,h.vlt,fun k hl hn=>(hk k R5).trans (h.keep k hl hn),fun p hp=>?_,fun p hp=>?_⟩
 ·rcases List.mem_cons.1 hp with rfl | hp
  ·exact ⟨hs,heap_alloc_new w _⟩
  ·obtain ⟨h1,h2⟩:=h.lit p hp
   exact⟨h1,(hk p.1 (L2b.1 h2).1).trans h2⟩
 ·obtain ⟨⟨ys,hy⟩,h2⟩:=h.res p hp
  exact⟨⟨ys,A6 hy fun b hb=>hk b (hy.lt b hb).2⟩,h2⟩
theorem Stt.app {v':Value} {m:Nat} {news:List Value} (h:Stt w0 w B e sz v n xs zc lits res) (h2:w'.ownsRow B e sz v' (n+m) (xs++news)) (h3:w'.ownsRow B e sz v n xs) (h4:w.grownBy w' v.ownBlock) (h5:∀g,v'.ownBlock=some g->v.ownBlock=some g\/g=w.heap.size) (h6:∀B2 v2 n2,Has w B2 e sz v2 n2->Has w' B2 e sz v2 n2):Stt w0 w' B e sz v n xs zc lits ((v',n+m)::res):=by
 have hs:=h.size;have xa:=h4.size;refine⟨h3,h4.os.trans h.os,h4.tape.trans h.tape,h4.output.trans h.output,by omega,h.vlt,fun k hl hn=>(h4.block k R5 fun e=>hn e.symm).trans (h.keep k hl hn),fun p hp=>?_,fun p hp=>?_⟩
 ·obtain ⟨q1,q2⟩:=h.lit p hp
  refine⟨q1,(h4.block p.1 (L2b.1 q2).1 fun e=>?_).trans q2⟩;have:=h.vlt p.1 e.symm;omega
 ·rcases List.mem_cons.1 hp with rfl | hp
  ·refine ⟨⟨_,h2⟩,fun b hb=>?_⟩
   rcases h5 b hb with e | e
   ·exact L4a e
   ·exact L4b R5
  ·exact ⟨h6 _ _ _ (h.res p hp).1,(h.res p hp).2⟩
end
section
variable {W wr:World} {e k sz:Nat} {p:Value × Nat} {vs:List (Value × Nat)} {zv:Nat->Value}
structure Wr (W wr:World) (e sz:Nat) (zv:Nat->Value) (vs:List (Value × Nat)) (k off:Nat):Prop where
 size:wr.heap.size=W.heap.size
 os:wr.os=W.os
 tape:wr.tape=W.tape
 output:wr.output=W.output
 keep:∀b,(∀p,p∈vs->p.1.ownBlock≠some b)->wr.heap[b]?=W.heap[b]?
 has:∀p,p∈vs->Has wr 0 e sz p.1 p.2
 zed:∀k' p,vs[k']?=some p->k' < k->Zed wr zv p.1 (p.2*sz)
 cur:∀p,vs[k]?=some p->Zed wr zv p.1 off
theorem Wr.start (h:∀p,p∈vs->Has W 0 e sz p.1 p.2):Wr W W e sz zv vs 0 0 :=
 ⟨rfl,rfl,rfl,rfl,fun _ _=>rfl,h,fun _ _ _ hk=>by omega,fun _ _=>Zed.zero _ _ _⟩
theorem Wr.next {off b:Nat} (h:Wr W wr e sz zv vs k off) (hp:vs[k]?=some p) (hb:p.1.ownBlock=some b) (hc:∃z,wr.cell? ⟨b,off,none⟩=some z):Wr W (wr.setCell ⟨b,off,none⟩ (zv off)) e sz zv vs k (off+1) :=
 ⟨by rw [<- h.size];simp,h.os,h.tape,h.output,fun b' hb'=>(heap_setCell_other _ _ _ _ fun e=>hb' p (L2a hp) (by rw [hb,e])).trans (h.keep b' hb'),fun q hq=>(h.has q hq).set _ _ _,fun k' q e1 e2=>(h.zed k' q e1 e2).set _ _,fun q hq=>by
  rw[hp] at hq;obtain rfl:=L5b hq;exact (h.cur p hp).next hb hc⟩
theorem Wr.done (h:Wr W wr e sz zv vs k (p.2*sz)) (hp:vs[k]?=some p):Wr W wr e sz zv vs (k+1) 0 :=
 ⟨h.size,h.os,h.tape,h.output,h.keep,h.has,fun k' q e1 e2=>by
  by_cases e3:k'=k
  ·subst e3
   rw[hp] at e1;obtain rfl:=L5b e1;exact h.cur p hp
  ·exact h.zed k' q e1 R5,fun _ _=>Zed.zero _ _ _⟩
structure yH (w w':World) (yb j:Nat) (av v av':Value) (nb:Nat) (vs:List (Value × Nat)):Prop where
 os:w'.os=w.os
 tape:w'.tape=w.tape
 output:w'.output=w.output
 size:w.heap.size<=w'.heap.size
 keep:∀k,k < w.heap.size->k≠yb->av.ownBlock≠some k->v.ownBlock≠some k->w'.heap[k]?=w.heap[k]?
 yc:∀i,i≠j->w'.cell? ⟨yb,i,none⟩=w.cell? ⟨yb,i,none⟩
 yf:∀i,w'.frozen? ⟨yb,i,none⟩=w.frozen? ⟨yb,i,none⟩
 nbn:w.heap.size<=nb
 vsn:∀p,p∈vs->∀b,p.1.ownBlock=some b->v.ownBlock=some b\/w.heap.size<=b
 avn:∀b,av'.ownBlock=some b->av.ownBlock=some b\/w.heap.size<=b
theorem a4D {w Wv w5:World} {te ta yb j na:Nat} {av v av':Value} {n nb:Nat} {al xs xs0 zc:List Value} {lits:List (Nat × Nat)} {o:Obj} 
  (hS:Stt w Wv 0 e sz v n xs zc lits vs) (hv0:w.ownsRow 0 e sz v n xs0) (hnb:nb=Wv.heap.size) (hwr:Wr (Wv.alloc (.cells (vs.reverse.map Prod.fst).toArray te (0,0))) wr e sz zv vs.reverse vs.length 0)
  (ha:w.ownsRow 0 ta 1 av na al) (hta:ta≠e) (hyb:yb < w.heap.size) (hy1:av.ownBlock≠some yb) (hy2:v.ownBlock≠some yb)
  (hg:(wr.alloc o).grownBy w5 av.ownBlock) (ho:w5.ownsRow 0 ta 1 av' (na+1) (al++[.slice (zA nb) 4 4])) (hat:∀g,av'.ownBlock=some g->av.ownBlock=some g\/g=(wr.alloc o).heap.size) (hj:∃z,w.cell? ⟨yb,j,none⟩=some z) :
  w5.cell? ⟨yb,j,none⟩=w.cell? ⟨yb,j,none⟩/\w5.frozen? ⟨yb,j,none⟩=w.frozen? ⟨yb,j,none⟩/\yb < w5.heap.size /\
  aK (w5.setCell ⟨yb,j,none⟩ av') e sz te zv nb vs.reverse/\(w5.setCell ⟨yb,j,none⟩ av').cell? ⟨yb,j,none⟩=some av'/\(w5.setCell ⟨yb,j,none⟩ av').ownsRow 0 ta 1 av' (na+1) (al++[.slice (zA nb) 4 4])/\yH w (w5.setCell ⟨yb,j,none⟩ av') yb j av v av' nb vs.reverse:=by
 subst hnb;have hs:=hS.size;have xi:=hwr.size;have xh:(Wv.alloc (.cells (vs.reverse.map Prod.fst).toArray te (0,0))).heap.size=Wv.heap.size+1:=by simp
 have xg:(wr.alloc o).heap.size=Wv.heap.size+2:=by simp;omega
 have xj:Wv.heap.size+2<=w5.heap.size:=by have:=hg.size;omega
 have xa:∀p,p∈vs.reverse->∀b,p.1.ownBlock=some b->(v.ownBlock=some b\/w.heap.size<=b)/\b < Wv.heap.size:=fun p hp b hb=>by
  obtain⟨⟨ys,hy⟩,h2⟩:=hS.res p (List.mem_reverse.1 hp);exact⟨h2 b hb,(hy.lt b hb).2⟩
 have xb:∀b,av.ownBlock=some b->b < w.heap.size:=fun b hb=>(ha.lt b hb).2
 have xf:∀b,v.ownBlock=some b->av.ownBlock≠some b:=fun b hb hb'=>bD ha hv0 hta b hb' hb
 have F1:∀k,k < Wv.heap.size+1->k≠yb->av.ownBlock≠some k->(w5.setCell ⟨yb,j,none⟩ av').heap[k]?=wr.heap[k]?:=fun k hk h1 h2=>by
  rw[heap_setCell_other _ _ _ _ h1,hg.block k R5 (fun e=>h2 e.symm)];exact Below.heap_alloc _ _ _ R5
 have F2:∀k,k < w.heap.size->v.ownBlock≠some k->wr.heap[k]?=w.heap[k]?:=fun k hk hn=>by
  rw[hwr.keep k fun p hp hb=>?_]
  ·rw [Below.heap_alloc _ _ _ R5]
   exact hS.keep k hk hn
  ·rcases (xa p hp k hb).1 with h | h
   ·exact hn h
   ·omega
 have F3:w5.heap[yb]?=w.heap[yb]?:=by
  rw[hg.block yb R5 (fun e=>hy1 e.symm),Below.heap_alloc _ _ _ R5];exact F2 yb hyb hy2
 have c5:∀i,w5.cell? ⟨yb,i,none⟩=w.cell? ⟨yb,i,none⟩:=fun i=>L0b (a:=⟨yb,i,none⟩) F3
 have z5:∀i,w5.frozen? ⟨yb,i,none⟩=w.frozen? ⟨yb,i,none⟩:=fun i=>L0c (a:=⟨yb,i,none⟩) F3
 have xe:∀p,p∈vs.reverse->∀b,p.1.ownBlock=some b->(w5.setCell ⟨yb,j,none⟩ av').heap[b]?=wr.heap[b]?:=fun p hp b hb=>by
  obtain⟨h1,h2⟩:=xa p hp b hb;refine F1 b R5 (fun e=>?_) (fun e=>?_)
  ·rw [e] at h1
   rcases h1 with h | h
   ·exact hy2 h
   ·omega
  ·rcases h1 with h | h
   ·exact xf b h e
   ·have:=xb b e;omega
 obtain⟨z,hz⟩:=hj;refine⟨c5 j,z5 j,by omega,⟨?_,fun p hp=>(hwr.has p hp).block (xe p hp),fun p hp=>?_⟩,World.cell?_setCell_same _ _ _ ((c5 j).trans hz),A6 ho fun b hb=>heap_setCell_other _ _ _ _ fun e=>?_,⟨?_,?_,?_,?_,fun k hk h1 h2 h3=>(F1 k R5 h1 h2).trans (F2 k hk h3),fun i hi=>?_,fun i=>?_,hs,fun p hp b hb=>(xa p hp b hb).1,fun b hb=>?_⟩⟩
 ·rw [F1 Wv.heap.size R5 R5 (fun e=>by have:=xb _ e;omega),hwr.keep Wv.heap.size fun p hp hb=>by have:=(xa p hp _ hb).2;omega]
  exact heap_alloc_new Wv _
 ·obtain ⟨k',xd⟩:=List.mem_iff_getElem?.1 hp
  have xc:=(L1a.1 xd).1;rw[List.length_reverse] at xc;exact (hwr.zed k' p xd xc).block (xe p hp)
 ·have e':b=yb:=e
  rcases hat b hb with h | h
  ·exact hy1 (by rw [<- e'];exact h)
  ·omega
 ·show w5.os=_;rw [hg.os];show wr.os=_;rw [hwr.os];exact hS.os
 ·show w5.tape=_;rw [hg.tape];show wr.tape=_;rw [hwr.tape];exact hS.tape
 ·show w5.output=_;rw [hg.output];show wr.output=_;rw [hwr.output];exact hS.output
 ·simp;omega
 ·refine (World.cell?_setCell_other _ _ _ _ fun e=>?_).trans (c5 i)
  simp only[Addr.mk.injEq] at e;exact hi e.2.1.symm
 ·rw [<- z5 i];go_simp
 ·rcases hat b hb with h | h
  ·exact L4a h
  ·exact L4b R5
end
def uQ (e sz te ta yb j na:Nat) (zv:Nat->Value) (av v:Value) (al:List Value) (w w':World):Prop :=
 ∃nb vs av',vs.length=4/\aK w' e sz te zv nb vs/\w'.cell? ⟨yb,j,none⟩=some av'/\w'.ownsRow 0 ta 1 av' (na+1) (al++[.slice (zA nb) 4 4])/\yH w w' yb j av v av' nb vs
end Go.Proofs.YtbkmgoffiigdbaaGreatDoor
namespace Go.Proofs.YtbkmgoffiigdbaaGreatDoor
set_option maxHeartbeats 4000000
set_option maxRecDepth 100000
open Go.RowKit Go.Sort
end Go.Proofs.YtbkmgoffiigdbaaGreatDoor
namespace Go.Proofs.YtbkmgoffiigdbaaGreatDoor
open Go.RowKit Go.Sort Go.Proofs.Tryz
set_option maxHeartbeats 4000000
set_option maxRecDepth 100000
section
variable {nb:Nat} {vs:List (Value × Nat)} {w:World}
def aI (i d:Nat):Nat:=i / 251 ^ d % 251
theorem a4O (i k:Nat):i / 251 ^ k / 251=i / 251 ^ (k+1):=by rw [Nat.div_div_eq_div_mul,Nat.pow_succ]
theorem lI (i d:Nat) (hi:i<=1000000000) (hd:d<=3) :
  Calls prog 71 #[J (i:Int),J (d:Int)] w fun e w'=>e=.returned (zC ((aI i d:Nat):Int))/\w'=w:=by
 go_enter func71,ntmps71;go_wp2_with fail;go_loopw [0,5] (fun v0 v5 wr=>∃k:Nat,k<=d/\v5=J (k:Int)/\v0=J ((i / 251 ^ k:Nat):Int)/\wr=w) (fun _ v5 _=>d - (intOf v5).toNat)
 case atStart=>exact ⟨0,L4c _,rfl,by simp,rfl⟩
 case round =>
  obtain⟨k,hk,rfl,rfl,rfl⟩:=hrel;have xc:i / 251 ^ k<=1000000000:=L5a (Nat.div_le_self _ _) hi;by_cases hlt:k < d
  ·have xa:(k:Int) < (d:Int):=by omega
   have HN:=hid (a4O i k);generalize hx:i / 251 ^ k=x at *
   clear hx;go_wp2_with fail;go_roundw
   case rel=>exact ⟨k+1,by omega,by go_num,by rw [<- HN.out];first | rfl | go_num | (simp;omega),by first | rfl | trivial⟩
   case measure=>simp [intOf];omega
  ·obtain rfl:k=d:=by omega
   have xb:¬(k:Int) < (k:Int):=by omega
   have HD:Hid (i / 251 ^ k % 251=aI i k):=hid rfl;generalize i / 251 ^ k=x at *
   have hm:((x:Int) % 251) % 256=(x:Int) % 251:=by omega
   go_wp2_with fail;go_ret;refine⟨?_,rfl⟩;rw[<- HD.out]
   first | rfl | simp
structure yG (w:World) (nb:Nat) (vs:List (Value × Nat)):Prop where
 blk:∀k p,vs[k]?=some p->w.cell? ⟨nb,k,none⟩=some p.1
 lt:nb < w.heap.size
 has:∀p,p∈vs->Has w 0 5 1 p.1 p.2
 ne:∀p,p∈vs->p.1.ownBlock≠some nb
 n:∀p,p∈vs->p.2<=9223372036854775807
theorem rY (h:yG w nb vs) (hl:vs.length=4) (z:Nat) :
  Calls prog 72 #[.slice (zA nb) 4 4,zC (z:Int)] w fun e w'=>e=.returned (.tuple #[])/\Wr w w' 5 1 (fun _=>zC (z:Int)) vs 4 0:=by
 have xq:Hid (Wr w w 5 1 (fun _=>zC (z:Int)) vs 0 0):=hid (Wr.start h.has);have xs:=h.lt;have xb:Hid (∀(u:World) k p,vs[k]?=some p->u.heap.size=w.heap.size->(∀b,(∀p,p∈vs->p.1.ownBlock≠some b)->u.heap[b]?=w.heap[b]?)->u.cell? ⟨nb,k,none⟩=some p.1/\nb < u.heap.size):=hid fun u k p hp hs hu=>⟨(L0b (a:=⟨nb,k,none⟩) (hu nb h.ne)).trans (h.blk k p hp),by omega⟩
 have xn:=hid h.n;clear h;go_enter func72,ntmps72;go_wp2_with fail;go_loopw [4] (fun vi wr=>∃k:Nat,k<=4/\vi=J k/\Wr w wr 5 1 (fun _=>zC (z:Int)) vs k 0) (fun vi _=>4 - (intOf vi).toNat)
 case atStart=>exact ⟨0,by omega,rfl,xq.out⟩
 case round =>
  obtain⟨k,hk,rfl,xa⟩:=hrel;by_cases hlt:k < 4
  ·obtain ⟨p,hp⟩:∃p,vs[k]?=some p:=⟨_,L1b R5⟩
   have xi:(k:Int) < 4:=by omega
   have xd:=hid xa;have xe:=L2a hp;obtain⟨pa,pc,xp,xy,_⟩:=(xa.has p xe).form;have xv:=xn.out p xe;clear xa;go_wp2_with fail;go_loopw [5] (fun vi wr=>∃i:Nat,i<=p.2/\vi=J i/\Wr w wr 5 1 (fun _=>zC (z:Int)) vs k i) (fun vi _=>p.2 - (intOf vi).toNat)
   case atStart=>exact ⟨0,by omega,rfl,xd.out⟩
   case round =>
    obtain⟨i,hi,rfl,xa⟩:=hrel;have c0:=(xb.out wr k p hp xa.size xa.keep).1;have xl:=(xb.out wr k p hp xa.size xa.keep).2;have xf:=hid xa;by_cases hli:i < p.2
    ·obtain ⟨xx,xz,xc,xj,xk⟩:=(xa.has p xe).form
     obtain⟨b,rfl,xm,xw,xg,xh⟩:=xk R5;obtain⟨z0,xo⟩:=xh i R5;have xt:=xg i;rw[xc] at c0;have xr:(i:Int) < (p.2:Int):=by omega
     clear xa xg xh;go_wp2_with fail;go_roundw
     case rel=>exact ⟨i+1,by omega,by go_num,xf.out.next hp xm ⟨z0,xo⟩⟩
     case measure=>simp [intOf];omega
    ·obtain rfl:i=p.2:=by omega
     have xu:¬(p.2:Int) < (p.2:Int):=by omega
     rw[xp] at c0;clear xa;go_wp2_with fail;go_roundw
     case rel=>exact ⟨k+1,by omega,by go_num,Wr.done (by rw [Nat.mul_one];exact xf.out) hp⟩
     case measure=>simp [intOf];omega
  ·obtain rfl:k=4:=by omega
   have xd:=hid xa;clear xa;go_wp2_with fail;go_end0
   exact⟨rfl,xd.out⟩
structure a4u (w:World) (nb:Nat) (vs:List (Value × Nat)) (z:Nat):Prop where
 get:∀k p,vs[k]?=some p->w.cell? ⟨nb,k,none⟩=some p.1/\∃a c,p.1=.slice a p.2 c/\(0 < p.2->∃b,a=some ⟨b,0,none⟩/\b < w.heap.size/\∀off,off < p.2->w.cell? ⟨b,off,none⟩=some (zC (z:Int)))
 lt:nb < w.heap.size
 n:∀p,p∈vs->p.2<=9223372036854775807
theorem a3x {z:Nat} (h:a4u w nb vs z) (hl:vs.length=4) :
  Calls prog 70 #[.slice (zA nb) 4 4,zC (z:Int)] w fun e w'=>e=.returned (.bool true)/\w'=w:=by
 have xh:=h.lt;have HG:=hid h.get;have xe:=hid h.n;clear h;go_enter func70,ntmps70;go_wp2_with fail;go_loopw [5] (fun vi wr=>∃k:Nat,k<=4/\vi=J k/\wr=w) (fun vi _=>4 - (intOf vi).toNat)
 case atStart=>exact ⟨0,by omega,rfl,rfl⟩
 case round =>
  obtain⟨k,hk,rfl,rfl⟩:=hrel;by_cases hlt:k < 4
  ·obtain ⟨p,hp⟩:∃p,vs[k]?=some p:=⟨_,L1b R5⟩
   have xc:(k:Int) < 4:=by omega
   have xj:=xe.out p (L2a hp);obtain⟨c0,pa,pc,xf,xd⟩:=HG.out k p hp;rw[xf] at c0;go_wp2_with fail;go_loopw [6] (fun vi wr2=>∃i:Nat,i<=p.2/\vi=J i/\wr2=wr) (fun vi _=>p.2 - (intOf vi).toNat)
   case atStart=>exact ⟨0,by omega,rfl,rfl⟩
   case round =>
    obtain⟨i,hi,rfl,xb⟩:=hrel;rw[xb];clear xb;by_cases hli:i < p.2
    ·obtain ⟨b,rfl,xk,xa⟩:=xd R5
     have xl:=xa i hli;have xg:(i:Int) < (p.2:Int):=by omega
     clear xa;go_wp2_with fail;go_roundw
     case rel=>exact ⟨i+1,by omega,by go_num,by first | rfl | trivial⟩
     case measure=>simp [intOf];omega
    ·obtain rfl:i=p.2:=by omega
     have xi:¬(p.2:Int) < (p.2:Int):=by omega
     go_wp2_with fail;go_roundw
     case rel=>exact ⟨k+1,by omega,by go_num,by first | rfl | trivial⟩
     case measure=>simp [intOf];omega
  ·obtain rfl:k=4:=by omega
   go_wp2_with fail;go_ret;exact⟨rfl,rfl⟩
end
theorem a9J:(prog.info? 5).map (fun i=>(i.zero,i.size,i.bytes))=some (some (zC 0),1,1):=by kernel_rfl
theorem a8Y:(prog.info? 128).map (fun i=>(i.zero,i.size,i.bytes))=some (some zD,1,24):=by kernel_rfl
theorem a2k (i:Nat):aI i 0=i % 251:=by unfold aI;rw [Nat.pow_zero,Nat.div_one]
theorem a2c {w:World} {yb na n:Nat} {av v:Value} {al xs:List Value} (hy:yb < w.heap.size) (hc:w.cell? ⟨yb,2,none⟩=some av) (hz:w.frozen? ⟨yb,2,none⟩=false)
  (ha:w.ownsRow 0 128 1 av na al) (hv:w.ownsRow 0 5 1 v n xs) (hna:na<=1000000000) (hn:n<=1000000) (hy1:av.ownBlock≠some yb) (hy2:v.ownBlock≠some yb) :
  Calls prog 69 #[.pointer (some ⟨yb,1,none⟩),v] w fun e w'=>e=.returned (.tuple #[])/\uQ 5 1 26 128 yb 2 na (fun _=>zC ((na % 251:Nat):Int)) av v al w w':=by
 obtain⟨aa,ac,ye,_⟩:=C2 ha;subst ye;obtain⟨va,vc,yi,yl⟩:=C2 hv;subst yi;obtain⟨i3,xm,xo,xg,xn⟩:=info_parts a9J;obtain⟨i9,xw,xq,xr,xv⟩:=info_parts a8Y;have HI:=hid (And.intro xm (And.intro xo (And.intro xg xn)));have HN:=hid (And.intro xw (And.intro xq (And.intro xr xv)));have S0:Hid (Stt w w 0 5 1 (.slice va n vc) n xs [zC ((na % 251:Nat):Int)] [] [(.slice va n vc,n)]):=hid (Stt.start hv)
 have HA:=hid ha;have HV:=hid hv;have xz:Hid (∀U,Calls prog 71 #[J (na:Int),J 0] U fun e w'=>e=.returned (zC ((na % 251:Nat):Int))/\w'=U):=hid fun U=>by
  have:=lI (w:=U) na 0 hna R4;rw[a2k] at this;exact this
 clear xm xo xg xn xw xq xr xv ha hv;go_enter func69,ntmps69;have T1:=hid (S0.out.build 1);go_wp2_with (first | (go_at_call 71;refine (xz.out _).mono ?_;rintro e w1 ⟨rfl,hw⟩;rw [hw];clear hw w1) | (at_builtin;go_must (refine Z3 _ rfl (.tmp 13) (.tmp 15) 26 rfl 0 5 i3 _ 1 1 underlying26 HI.out.1 HI.out.2.1 HI.out.2.2.1 HI.out.2.2.2 rfl R4 (.slice va n vc) n xs rfl T1.out.own ⟨w.heap.size,0,none⟩ 1 1 R4 [zC ((na % 251:Nat):Int)] rfl rfl (World.news_of_block (cs:=#[zC ((na % 251:Nat):Int)]) (t:=5) (fr:=(0,0)) (B0 R6)) (by intro u hu;simp at hu;subst hu;rfl) Q7 R5 R6 ?_)))
 intro v1 w1 h2 h3 h4 h5 h6;obtain⟨a1,c1,xx,yo⟩:=C2 h2;subst xx;have S1:=hid (T1.out.app h2 h3 h4 (fun g hg=>by rcases h5 g hg with e | e;exact L4a e;exact L4b (by rw [e];simp)) h6);have yp:=S1.out.size;clear h2 h3 h4 h5 h6;have T2:=hid (S1.out.build 2);go_wp2_with (at_builtin;go_must (refine Z3 _ rfl (.tmp 17) (.tmp 20) 26 rfl 0 5 i3 _ 1 1 underlying26 HI.out.1 HI.out.2.1 HI.out.2.2.1 HI.out.2.2.2 rfl R4 (.slice va n vc) n xs rfl T2.out.own ⟨w1.heap.size,0,none⟩ 2 2 R4 [zC ((na % 251:Nat):Int),zC ((na % 251:Nat):Int)] rfl rfl (World.news_of_block (cs:=#[zC ((na % 251:Nat):Int),zC ((na % 251:Nat):Int)]) (t:=5) (fr:=(0,0)) (B0 R6)) (by intro u hu;simp at hu;subst hu;rfl) Q7 R5 R6 ?_))
 intro v2 w2 h2 h3 h4 h5 h6;obtain⟨a2,c2,yh,ym⟩:=C2 h2;subst yh;have S2:=hid (T2.out.app h2 h3 h4 (fun g hg=>by rcases h5 g hg with e | e;exact L4a e;exact L4b (by rw [e];simp)) h6);have yn:=S2.out.size;clear h2 h3 h4 h5 h6;have T3:=hid (S2.out.build 3);go_wp2_with (at_builtin;go_must (refine Z3 _ rfl (.tmp 22) (.tmp 26) 26 rfl 0 5 i3 _ 1 1 underlying26 HI.out.1 HI.out.2.1 HI.out.2.2.1 HI.out.2.2.2 rfl R4 (.slice va n vc) n xs rfl T3.out.own ⟨w2.heap.size,0,none⟩ 3 3 R4 [zC ((na % 251:Nat):Int),zC ((na % 251:Nat):Int),zC ((na % 251:Nat):Int)] rfl rfl (World.news_of_block (cs:=#[zC ((na % 251:Nat):Int),zC ((na % 251:Nat):Int),zC ((na % 251:Nat):Int)]) (t:=5) (fr:=(0,0)) (B0 R6)) (by intro u hu;simp at hu;subst hu;rfl) Q7 R5 R6 ?_))
 intro v3 w3 h2 h3 h4 h5 h6;obtain⟨a3,c3,xy,yk⟩:=C2 h2;subst xy;have S3:=hid (T3.out.app h2 h3 h4 (fun g hg=>by rcases h5 g hg with e | e;exact L4a e;exact L4b (by rw [e];simp)) h6);have xg:=S3.out.size;clear h2 h3 h4 h5 h6;go_wp2_with fail;obtain⟨vs,xb⟩:∃vs:List (Value × Nat),vs=[(.slice va n vc,n),(.slice a1 (n+1) c1,n+1),(.slice a2 (n+2) c2,n+2),(.slice a3 (n+3) c3,n+3)]:=⟨_,rfl⟩
 have xa:vs=[(.slice a3 (n+3) c3,n+3),(.slice a2 (n+2) c2,n+2),(.slice a1 (n+1) c1,n+1),((.slice va n vc:Value),n)].reverse:=xb;have xt:vs.length=4:=by rw [xb];rfl
 have HM:Hid (∀p,p∈vs->p∈[(.slice a3 (n+3) c3,n+3),(.slice a2 (n+2) c2,n+2),(.slice a1 (n+1) c1,n+1),((.slice va n vc:Value),n)]):=hid fun p hp=>by rw [xa] at hp;exact List.mem_reverse.1 hp
 have xu:Hid (yG (w3.alloc (.cells #[.slice va n vc,.slice a1 (n+1) c1,.slice a2 (n+2) c2,.slice a3 (n+3) c3] 26)) w3.heap.size vs):=hid ⟨fun k p hp=>by
   have h1:(w3.alloc (.cells #[.slice va n vc,.slice a1 (n+1) c1,.slice a2 (n+2) c2,.slice a3 (n+3) c3] 26)).heap[w3.heap.size]?=some (.cells (vs.map Prod.fst).toArray 26 (0,0)):=by rw [xb];exact heap_alloc_new w3 _
   simp only[World.cell?,h1];simp[List.getElem?_map,hp],by simp,fun p hp=>(S3.out.res p (HM.out p hp)).1.block fun b hb=>Below.heap_alloc _ _ _ (by
   obtain⟨ys,xj⟩:=(S3.out.res p (HM.out p hp)).1;exact (xj.lt b hb).2),fun p hp hb=>by
   obtain⟨ys,xj⟩:=(S3.out.res p (HM.out p hp)).1;have:=(xj.lt _ hb).2;omega,fun p hp=>by rw [xb] at hp;simp at hp;rcases hp with h | h | h | h <;> rw [h] <;> simp <;> omega⟩
 obtain⟨nb,xk⟩:∃nb,nb=w3.heap.size:=⟨_,rfl⟩
 have xe:(w3.alloc (.cells #[.slice va n vc,.slice a1 (n+1) c1,.slice a2 (n+2) c2,.slice a3 (n+3) c3] 26)).heap.size=w3.heap.size+1:=by simp
 generalize hW4:(w3.alloc (.cells #[.slice va n vc,.slice a1 (n+1) c1,.slice a2 (n+2) c2,.slice a3 (n+3) c3] 26))=W4 at *
 rw[<- xk] at xu ⊢;have xd:=hid xk;have xf:=hid hW4;have xh:=hid xe;have yf:=hid xb;have xl:=hid xa;clear xb xa xk hW4 xe;refine (rY xu.out xt (na % 251)).mono ?_;rintro e wr ⟨rfl,xc⟩;have ya:=hid xc;have xi:wr.heap[yb]?=w.heap[yb]?:=by
  rw[xc.keep yb fun p hp hb=>?_,<- xf.out,Below.heap_alloc _ _ _ (by have:=xd.out;omega)]
  ·exact S3.out.keep yb hy hy2
  ·rcases (S3.out.res p (HM.out p hp)).2 yb hb with h | h
   ·exact hy2 h
   ·omega
 have y1:wr.cell? ⟨yb,2,none⟩=some (.slice aa na ac):=(L0b (a:=⟨yb,2,none⟩) xi).trans hc;have y2:wr.frozen? ⟨yb,2,none⟩=false:=(L0c (a:=⟨yb,2,none⟩) xi).trans hz;have yj:yb < wr.heap.size:=by have:=xc.size;have:=xh.out;omega
 have yg:Hid (wr.ownsRow 0 128 1 (.slice aa na ac) na al):=hid (A6 HA.out fun b hb=>by
  have yc:=(HA.out.lt b hb).2;have xp:(Value.slice va n vc).ownBlock≠some b:=fun e=>bD HA.out HV.out R4 b hb e
  rw[xc.keep b fun p hp hb'=>?_,<- xf.out,Below.heap_alloc _ _ _ R5]
  ·exact S3.out.keep b yc xp
  ·rcases (S3.out.res p (HM.out p hp)).2 b hb' with h | h
   ·exact xp h
   ·omega)
 clear xc xi;go_wp2_with (at_builtin;go_must (refine A8 _ rfl (.tmp 36) (.tmp 38) 30 rfl 0 128 i9 _ 1 24 underlying30 HN.out.1 HN.out.2.1 HN.out.2.2.1 HN.out.2.2.2 rfl R4 (.slice aa na ac) na al rfl (yg.out.alloc _) (zA wr.heap.size) 1 1 [.slice (zA nb) 4 4] rfl rfl (fun _=>⟨_,rfl,World.news_of_block (cs:=#[.slice (zA nb) 4 4]) (t:=128) (fr:=(0,0)) (B0 (by first | rfl | simp))⟩) (by intro u hu;simp at hu;subst hu;rfl) Q7 R5 R6 ?_))
 intro v5 w5 hown5 hgrow5 hat5;obtain⟨a5,c5,yd,_⟩:=C2 hown5;subst yd;have xa:=xl.out;obtain⟨e1,e2,e3,e4,e5,e6,e7⟩:=a4D (te:=26) (zv:=fun _=>zC ((na % 251:Nat):Int)) S3.out HV.out xd.out (by rw [<- xa];rw [show w3.alloc (.cells (vs.map Prod.fst).toArray 26 (0,0))=W4 by rw [<- xf.out,yf.out];rfl];exact ya.out) HA.out R4 hy hy1 hy2 hgrow5 hown5 (fun g hg=>by rcases hat5 g hg with e | e;exact L4a e;exact L4b (by rw [e];simp)) ⟨_,hc⟩
 rw[hc] at e1;rw[hz] at e2;rw[<- xa] at e4 e7;have HE:=hid (And.intro e4 (And.intro e5 (And.intro e6 e7)));clear hown5 hgrow5 hat5 e4 e5 e6 e7;go_wp2_with fail;go_end0
 exact⟨rfl,nb,vs,_,xt,HE.out.1,HE.out.2.1,HE.out.2.2.1,HE.out.2.2.2⟩
end Go.Proofs.YtbkmgoffiigdbaaGreatDoor
