import Derived.Test.YtbkmgoffiigdbaaGreatDoorWBa
import Derived.Deep.DeepAppendRoom
namespace Go.Proofs.YtbkmgoffiigdbaaGreatDoor
open Go.RowKit Go.Sort Go.Proofs.Tryz
set_option maxHeartbeats 4000000
set_option maxRecDepth 100000
section
variable {B e n sz:Nat} {P:Program} {w:World}
def Has (w:World) (B e sz:Nat) (v:Value) (n:Nat):Prop:=∃xs,w.ownsRow B e sz v n xs
theorem Has.block {w':World} {v:Value} (h:Has w B e sz v n) (hb:∀b,v.ownBlock=some b->w'.heap[b]?=w.heap[b]?):Has w' B e sz v n:=by
 obtain⟨xs,hx⟩:=h;exact⟨xs,A6 hx hb⟩
theorem a0S {m c:Nat} {a:Option Addr} {xs ys:List Value} (hx:xs.length=n*sz) (h:w.ownsRow B e sz (.slice a (n+m) c) (n+m) (xs++ys)) (ha:∃g,a=some ⟨g,0,none⟩):w.ownsRow B e sz (.slice a n c) n xs:=by
 rcases h.2 with ⟨h0,_⟩ | ⟨g,xb,xa,hv,h1,h2,h3,h4,h5,h6⟩
 ·obtain ⟨g,rfl⟩:=ha
  cases h0
 ·cases hv
  refine⟨hx,L4b ⟨g,c,xa,rfl,h1,h2,by omega,h4,h5,?_⟩⟩;have:(xa.toList.take ((n+m)*sz)).take (n*sz)=xs:=by
   rw[h6,<- hx];exact List.take_left
  rw[List.take_take] at this;rwa [Nat.min_eq_left (Nat.mul_le_mul_right _ R4)] at this
theorem dF (w:World) (base:Nat) (t ty e:TypeId) (i:TypeInfo) (z:Value) (size bytes:Nat) (ht:P.underlying t=some (.slice e)) (hi:P.info? e=some i) (hz:i.zero=some z)
  (hsize:i.size=size) (hby:i.bytes=bytes) (hzs:z.cells.size=size) (hsz:0 < size)
  (v:Value) (n:Nat) (xs:List Value) (hown:w.ownsRow base e size v n xs)
  (a:Addr) (m c:Nat) (hm:0 < m) (news:List Value) (hl:news.length=m*size) (hnews:∀j u,news[j]?=some u->w.cell? (a.add j)=some u) (h1:∀u∈news,u.oneCell'=true)
  (h63:n+m<=maxLen) (hbytes:(n+m)*bytes<=140737488355328) (hbase:base<=w.heap.size) :
  ∃v' w',(Builtin.append_ #[t,t] ty #[v,.slice (some a) m c]).run P w=.ok v' w'/\w'.ownsRow base e size v' (n+m) (xs++news)/\w'.ownsRow base e size v n xs/\w.grownBy w' v.ownBlock /\
   (∀g,v'.ownBlock=some g->v.ownBlock=some g\/g=w.heap.size)/\∀B2 v2 n2,Has w B2 e size v2 n2->Has w' B2 e size v2 n2:=by
 rcases hown.2 with ⟨rfl,rfl⟩ | ⟨g,cap,xm,rfl,xy,hg,ya,xw,xp,xg⟩
 ·obtain ⟨v',w',h2,h3,h4,h5⟩:=run_append_own (P:=P) w base t ty e i z size bytes ht hi hz hsize hby hzs hsz (.slice none 0 0) 0 xs hown a m c news hl hnews h1 h63 hbytes hbase
  subst hsize;subst hby;have hx:xs=[]:=List.eq_nil_of_length_eq_zero (by simpa using hown.1);subst hx;have hr:=run_append_nil (P:=P) w t ty e i z ht hi hz a m c news hl hnews R4 (by simp only [maxLen] at h63;omega) (by have hb:=hbytes;simp only [Nat.zero_add] at hb;omega);rw[hr] at h2;have xc:v'=.slice (some ⟨w.heap.size,0,none⟩) m (grownCap w m 0 e):=by
   have:=h2;simp only [Result.ok.injEq] at this;exact this.1.symm
  refine⟨v',w',hr.trans h2,h3,World.ownsRow_nil _ _ _ _,h4,fun g hgg=>L4b ?_,fun B2 v2 n2 hh=>hh.block fun b hb=>h4.block b ?_ (by simp [Value.ownBlock])⟩
  ·rw [xc] at hgg;simpa [Value.ownBlock] using hgg.symm
  ·obtain ⟨ys,hy⟩:=hh
   exact (hy.lt b hb).2
 ·by_cases hroom:n+m<=cap
  ·obtain ⟨w',h2,h3,h4⟩:=run_append_own_spare (P:=P) w base t ty e i size ht hi hsize g n cap xs hown a m c news hl hnews h1 hroom
   refine⟨_,w',h2,h3,a0S hown.1 h3 ⟨g,rfl⟩,h4,fun g' hgg=>L4a hgg,fun B2 v2 n2 hh=>?_⟩;obtain⟨ys,hy⟩:=hh;by_cases hb:v2.ownBlock=some g
   ·rcases hy.2 with ⟨h0,_⟩ | ⟨g2,xe,cur2,xh,xt,xk,xi,xl,xn,xx⟩
    ·rw [h0] at hb;cases hb
    ·rw [xh] at hb
     obtain rfl:g2=g:=by simpa [Value.ownBlock] using hb
     rw[hg] at xk;have xr:xm=cur2:=by have:=L5b xk;simpa using this
     subst xr;have xf:xe=cap:=Nat.eq_of_mul_eq_mul_right hsz (xn.symm.trans xp);subst xf;rcases h3.2 with ⟨h0,_⟩ | ⟨g3,xo,xd,xq,yc,xu,xv,xz,xj,yb⟩
     ·cases h0
     ·cases xq
      refine⟨xd.toList.take (n2*size),?_,L4b ⟨g2,xe,xd,xh,xt,xu,xi,xl,xj,rfl⟩⟩;rw[List.length_take,Array.length_toList,xj];exact Nat.min_eq_left (Nat.mul_le_mul_right _ xi)
   ·exact Has.block ⟨ys,hy⟩ fun b hb'=>h4.block b (hy.lt b hb').2 fun e=>hb (by rw [hb',e])
  ·subst hsize
   subst hby;have xb:∀j u,xs[j]?=some u->w.cell? ((⟨g,0,none⟩:Addr).add j)=some u:=hown.cells (g:=g) rfl
   have hr:=run_append_grow (P:=P) w t ty e i z ht hi hz ⟨g,0,none⟩ n cap xs hown.1 xb a m c news hl hnews R4 (by simp only [maxLen] at h63;omega) (growslice_fits R4 hbytes);obtain⟨v',w',h2,h3,h4,h5⟩:=run_append_own (P:=P) w base t ty e i z i.size i.bytes ht hi hz rfl rfl hzs hsz (.slice (some ⟨g,0,none⟩) n cap) n xs hown a m c news hl hnews h1 h63 hbytes hbase;rw[hr] at h2;have xc:=h2
   simp only[Result.ok.injEq] at xc;have xa:∀k,k < w.heap.size->w'.heap[k]?=w.heap[k]?:=fun k hk=>by rw [<- xc.2];exact Below.heap_alloc w.drew _ k hk
   refine⟨v',w',hr.trans h2,h3,A6 hown fun b hb=>xa b (hown.lt b hb).2,h4,fun g' hgg=>L4b ?_,fun B2 v2 n2 hh=>?_⟩
   ·rw [<- xc.1] at hgg;simpa [Value.ownBlock] using hgg.symm
   ·obtain ⟨ys,hy⟩:=hh
    exact Has.block ⟨ys,hy⟩ fun b hb'=>xa b (hy.lt b hb').2
theorem U9 (w:World) {ops:Array Oper} {rest:List Oper} {o:Oper} {a:Act} {Q:Exit->Act->World->Prop} (hgd:o.guard=none) (s x:Operand) (t:TypeId)
  (ho:o.op=.call { callee:=.builtin .append,args:=#[s,x],argTypes:=#[t,t] })
  (base:Nat) (e:TypeId) (i:TypeInfo) (z:Value) (size bytes:Nat) (ht:P.underlying t=some (.slice e)) (hi:P.info? e=some i) (hz:i.zero=some z)
  (hsize:i.size=size) (hby:i.bytes=bytes) (hzs:z.cells.size=size) (hsz:0 < size)
  (v:Value) (n:Nat) (xs:List Value) (hs:a.eval s=v) (hown:w.ownsRow base e size v n xs)
  (ad:Addr) (m c:Nat) (hm:0 < m) (news:List Value) (hx:a.eval x=.slice (some ad) m c) (hl:news.length=m*size) (hnews:∀j u,news[j]?=some u->w.cell? (ad.add j)=some u) (h1:∀u∈news,u.oneCell'=true)
  (h63:n+m<=maxLen) (hbytes:(n+m)*bytes<=140737488355328) (hbase:base<=w.heap.size)
  (h:∀v' w',w'.ownsRow base e size v' (n+m) (xs++news)->w'.ownsRow base e size v n xs->w.grownBy w' v.ownBlock->(∀g,v'.ownBlock=some g->v.ownBlock=some g\/g=w.heap.size)->(∀B2 v2 n2,Has w B2 e size v2 n2->Has w' B2 e size v2 n2)->wpList P ops Q rest (a.put o.dst v') w'):wpList P ops Q (o::rest) a w:=by
 refine wpList_plain hgd fun _ hK=>?_
 obtain⟨v',w',hr,h2,h3,h4,h5,h6⟩:=dF (P:=P) w base t o.type e i z size bytes ht hi hz hsize hby hzs hsz v n xs hown ad m c hm news hl hnews h1 h63 hbytes hbase;unfold Oper.wp execOp;simp only[ho,resolve,invoke,builtin,Sem.run_bind,Sem.run_pure,Result.andThen_ok,List.map_toArray,List.map_cons,List.map_nil,hs,hx,hr];exact hK _ _ (h v' w' h2 h3 h4 h5 h6)
end
section
variable {w w':World}
structure D7 where
 B:Nat->Prop
 F:World->Prop
 lt:∀w,F w->∀k,B k->k < w.heap.size
 keep:∀w w',F w->w.heap.size<=w'.heap.size->(∀k,k < w.heap.size->B k\/k=0->w'.heap[k]?=w.heap[k]?)->F w'
def D7.none:D7:=⟨fun _=>False,fun _=>True,fun _ _ _ h=>h.elim,fun _ _ _ _ _=>trivial⟩
abbrev A3:=Nat × Nat->D7
structure Sep (P:A3) (w:World):Prop where
 pos:0 < w.heap.size
 F:∀i,(P i).F w
 dis:∀i j k,(P i).B k->(P j).B k->i=j
 z:∀i,¬(P i).B 0
def A3.put (P:A3) (i:Nat × Nat) (p:D7):A3:=fun j=>if j=i then p else P j
theorem A3.put_same (P:A3) (i:Nat × Nat) (p:D7):P.put i p i=p:=if_pos rfl
theorem A3.put_ne (P:A3) {i j:Nat × Nat} (h:j≠i) (p:D7):P.put i p j=P j:=if_neg h
theorem Sep.later {P:A3} (h:Sep P w) (hs:w.heap.size<=w'.heap.size) (hk:∀k,k < w.heap.size->((∃i,(P i).B k)\/k=0)->w'.heap[k]?=w.heap[k]?):Sep P w' :=
 ⟨L0a h.pos hs,fun i=>(P i).keep w w' (h.F i) hs fun k hk1 hk2=>hk k hk1 (hk2.imp (fun hb=>⟨i,hb⟩) id),h.dis,h.z⟩
theorem Sep.below {P:A3} (h:Sep P w) (hB:L0d w w'):Sep P w':=h.later hB.size fun k hk _=>hB.block k hk
theorem Sep.upd {P:A3} (h:Sep P w) (i:Nat × Nat) (p:D7) (hs:w.heap.size<=w'.heap.size) (hk:∀k,k < w.heap.size->¬(P i).B k->w'.heap[k]?=w.heap[k]?) (hF:p.F w') (hB:∀k,p.B k->(P i).B k\/w.heap.size<=k):Sep (P.put i p) w':=by
 have hp:=h.pos;have xa:∀j k,j≠i->(P j).B k->¬p.B k:=fun j k hj hb hpb=>by
  rcases hB k hpb with hc | hc
  ·exact hj (h.dis j i k hb hc)
  ·have:=(P j).lt w (h.F j) k hb;omega
 refine⟨L0a hp hs,fun j=>?_,fun j l k hj hl=>?_,fun j hj=>?_⟩
 ·by_cases e:j=i
  ·subst e;rw [A3.put_same];exact hF
  ·rw [A3.put_ne P e]
   refine (P j).keep w w' (h.F j) hs fun k hk1 hk2=>hk k hk1 fun hc=>?_
   rcases hk2 with hk2 | rfl
   ·exact e (h.dis j i k hk2 hc)
   ·exact h.z i hc
 ·by_cases e:j=i
  ·by_cases e':l=i
   ·rw [e,e']
   ·rw [e,A3.put_same] at hj
    rw[A3.put_ne P e'] at hl;exact (xa l k e' hl hj).elim
  ·rw [A3.put_ne P e] at hj
   by_cases e':l=i
   ·rw [e',A3.put_same] at hl
    exact (xa j k e hj hl).elim
   ·rw [A3.put_ne P e'] at hl
    exact h.dis j l k hj hl
 ·by_cases e:j=i
  ·rw [e,A3.put_same] at hj
   rcases hB 0 hj with hc | hc
   ·exact h.z i hc
   ·omega
  ·rw [A3.put_ne P e] at hj
   exact h.z j hj
theorem Sep.fresh {P:A3} (h:Sep P w) (i:Nat × Nat) (p:D7) (hF:p.F w) (hz:¬p.B 0) (hB:∀k,p.B k->∀j,j≠i->¬(P j).B k):Sep (P.put i p) w:=by
 refine⟨h.pos,fun j=>?_,fun j l k hj hl=>?_,fun j hj=>?_⟩
 ·by_cases e:j=i
  ·subst e;rw [A3.put_same];exact hF
  ·rw [A3.put_ne P e];exact h.F j
 ·by_cases e:j=i
  ·by_cases e':l=i
   ·rw [e,e']
   ·rw [e,A3.put_same] at hj
    rw[A3.put_ne P e'] at hl;exact (hB k hj l e' hl).elim
  ·rw [A3.put_ne P e] at hj
   by_cases e':l=i
   ·rw [e',A3.put_same] at hl
    exact (hB k hl j e hj).elim
   ·rw [A3.put_ne P e'] at hl
    exact h.dis j l k hj hl
 ·by_cases e:j=i
  ·rw [e,A3.put_same] at hj;exact hz hj
  ·rw [A3.put_ne P e] at hj;exact h.z j hj
def U0 (own:Own) (mb:Nat) (g:PgR) (R:McR):D7 :=
 ⟨fun k=>own k≠none\/g.blk k,fun w=>A4 w own mb g R,fun w h k hk=>by
  rcases hk with hk | hk
  ·cases e:own k with
   | none=>exact (hk e).elim
   | some t=>exact h.lt k t e
  ·exact h.pg.blk_lt hk,fun w w' h hs hk=>h.beside hs fun k hl hb=>hk k hl (by rcases hb with hb | hb | hb;exact L4a (L4a hb);exact L4a (L4b hb);exact L4b hb)⟩
theorem bT {own own':Own} {mb:Nat} {g:PgR} {R R':McR} (_h:A4 w own mb g R) (hT:A2 own w own' w') :
  (∀k,k < w.heap.size->¬(U0 own mb g R).B k->w'.heap[k]?=w.heap[k]?)/\∀k,(U0 own' mb g R').B k->(U0 own mb g R).B k\/w.heap.size<=k:=by
 refine⟨fun k hk hn=>hT.block k hk (Decidable.byContradiction fun e=>hn (L4a e)),fun k hk=>?_⟩;by_cases hl:w.heap.size<=k
 ·exact L4b hl
 ·rcases hk with hk | hk
  ·rw [hT.old k R4] at hk;exact L4a (L4a hk)
  ·exact L4a (L4b hk)
def cR (own:Own) (mb:Nat) (g:PgR) (R:RfR):D7 :=
 ⟨fun k=>own k≠none\/g.blk k\/∃o,R.da=some ⟨k,o,none⟩,fun w=>A8 w own mb g R,fun w h k hk=>by
  rcases hk with hk | hk | ⟨o,hk⟩
  ·cases e:own k with
   | none=>exact (hk e).elim
   | some t=>exact h.lt k t e
  ·exact h.pg.blk_lt hk
  ·exact (h.dro k o hk).1,fun w w' h hs hk=>h.aside hs (fun k t e=>hk k (h.lt k t e) (L4a (L4a (by rw [e];simp)))) (fun k _ hb=>by
   rcases hb with hb | hb | ⟨o,hb⟩
   ·exact hk k (h.pg.blk_lt hb) (L4a (L4b (L4a hb)))
   ·subst hb
    by_cases h0:0 < w.heap.size
    ·exact hk 0 h0 (L4b rfl)
    ·have:=h.lt _ _ h.me;omega
   ·exact hk k (h.dro k o hb).1 (L4a (L4b (L4b ⟨o,hb⟩))))⟩
end
section
variable {B e hi n nb sz te:Nat} {lits:List (Nat × Nat)} {res vs:List (Value × Nat)} {v:Value} {w w' w0:World} {xs zc:List Value} {zv:Nat->Value}
def Zed (w:World) (zv:Nat->Value) (v:Value) (hi:Nat):Prop:=∀b,v.ownBlock=some b->∀off,off < hi->w.cell? ⟨b,off,none⟩=some (zv off)
theorem Zed.zero (w:World) (zv:Nat->Value) (v:Value):Zed w zv v 0:=fun _ _ _ h=>by omega
theorem Zed.set (h:Zed w zv v hi) (b off:Nat):Zed (w.setCell ⟨b,off,none⟩ (zv off)) zv v hi:=fun b' hb' off' ho=>by
 have h0:=h b' hb' off' ho;by_cases e:(⟨b,off,none⟩:Addr)=⟨b',off',none⟩
 ·simp only [Addr.mk.injEq] at e
  obtain⟨rfl,rfl,_⟩:=e;exact World.cell?_setCell_same _ _ _ h0
 ·exact (World.cell?_setCell_other _ _ _ _ e).trans h0
theorem Zed.next {b:Nat} (h:Zed w zv v hi) (hb:v.ownBlock=some b) (hc:∃z,w.cell? ⟨b,hi,none⟩=some z):Zed (w.setCell ⟨b,hi,none⟩ (zv hi)) zv v (hi+1):=fun b' hb' off' ho=>by
 rw[hb] at hb';obtain rfl:=L5b hb';by_cases e:off'=hi
 ·subst e
  obtain⟨z,hz⟩:=hc;exact World.cell?_setCell_same _ _ _ hz
 ·exact h.set b hi b hb off' R4
theorem Zed.block (h:Zed w zv v hi) (hb:∀b,v.ownBlock=some b->w'.heap[b]?=w.heap[b]?):Zed w' zv v hi:=fun b e off ho=>(L0b (a:=⟨b,off,none⟩) (hb b e)).trans (h b e off ho)
theorem Has.set (h:Has w B e sz v n) (b off:Nat) (u:Value):Has (w.setCell ⟨b,off,none⟩ u) B e sz v n:=by
 by_cases hb:v.ownBlock=some b
 ·obtain ⟨xs,hx⟩:=h
  rcases hx.2 with ⟨h0,_⟩ | ⟨g,xa,xb,hv,_⟩
  ·rw [h0] at hb;cases hb
  ·subst hv
   obtain rfl:g=b:=by simpa [Value.ownBlock] using hb
   exact⟨_,(hx.stored off u).1⟩
 ·exact h.block fun b' hb'=>heap_setCell_other _ _ _ _ fun e=>hb (by rw [hb',e])
theorem Has.form (h:Has w B e sz v n):∃a c,v=.slice a n c/\n<=c/\(0 < n->∃b,a=some ⟨b,0,none⟩/\v.ownBlock=some b/\b < w.heap.size/\(∀j,w.frozen? ⟨b,j,none⟩=false)/\∀j,j < n*sz->∃z,w.cell? ⟨b,j,none⟩=some z):=by
 obtain⟨xs,hx⟩:=h;rcases hx.2 with ⟨h0,h1⟩ | ⟨g,xa,xb,hv,h2⟩
 ·exact ⟨none,0,by rw [h0,h1],by omega,fun h=>by omega⟩
 ·subst hv
  exact⟨_,xa,rfl,h2.2.2.1,fun _=>⟨g,rfl,rfl,(hx.lt g rfl).2,fun j=>hx.frozenAt j,fun j hj=>cell_of_ownsG hx hj⟩⟩
 where
 cell_of_ownsG {w:World} {B e sz b n c:Nat} {xs:List Value} (h:w.ownsRow B e sz (.slice (some ⟨b,0,none⟩) n c) n xs) {j:Nat} (hj:j < n*sz):∃z,w.cell? ⟨b,j,none⟩=some z:=by
  have:=h.cellAt j hj;rw[this];exact⟨_,L1b (by rw [h.1];exact hj)⟩
structure Z8 (w:World) (e sz te:Nat) (zv:Nat->Value) (nb:Nat) (vs:List (Value × Nat)):Prop where
 blk:w.heap[nb]?=some (.cells (vs.map Prod.fst).toArray te (0,0))
 has:∀p,p∈vs->Has w 0 e sz p.1 p.2
 zed:∀p,p∈vs->Zed w zv p.1 (p.2*sz)
def a4E (nb:Nat) (vs:List (Value × Nat)) (k:Nat):Prop:=k=nb\/∃p,p∈vs/\p.1.ownBlock=some k
theorem Z8.lt (h:Z8 w e sz te zv nb vs):∀k,a4E nb vs k->k < w.heap.size:=fun k hk=>by
 rcases hk with rfl | ⟨p,hp,hb⟩
 ·exact (L2b.1 h.blk).1
 ·obtain ⟨xs,hx⟩:=h.has p hp
  exact (hx.lt k hb).2
theorem Z8.keep (h:Z8 w e sz te zv nb vs) (hk:∀k,k < w.heap.size->a4E nb vs k->w'.heap[k]?=w.heap[k]?):Z8 w' e sz te zv nb vs :=
 ⟨(hk nb (h.lt nb (L4a rfl)) (L4a rfl)).trans h.blk,fun p hp=>(h.has p hp).block fun b hb=>hk b (h.lt b (L4b ⟨p,hp,hb⟩)) (L4b ⟨p,hp,hb⟩),fun p hp=>(h.zed p hp).block fun b hb=>hk b (h.lt b (L4b ⟨p,hp,hb⟩)) (L4b ⟨p,hp,hb⟩)⟩
def nG (e sz te:Nat) (zv:Nat->Value) (nb:Nat) (vs:List (Value × Nat)):D7 :=
 ⟨a4E nb vs,fun w=>Z8 w e sz te zv nb vs,fun _ h=>h.lt,fun _ _ h _ hk=>h.keep fun k hl hb=>hk k hl (L4a hb)⟩
structure Stt (w0 w:World) (B e sz:Nat) (v:Value) (n:Nat) (xs zc:List Value) (lits:List (Nat × Nat)) (res:List (Value × Nat)):Prop where
 own:w.ownsRow B e sz v n xs
 os:w.os=w0.os
 tape:w.tape=w0.tape
 output:w.output=w0.output
 size:w0.heap.size<=w.heap.size
 vlt:∀b,v.ownBlock=some b->b < w0.heap.size
 keep:∀k,k < w0.heap.size->v.ownBlock≠some k->w.heap[k]?=w0.heap[k]?
 lit:∀p,p∈lits->w0.heap.size<=p.1/\w.heap[p.1]?=some (.cells ((List.replicate p.2 zc).flatten).toArray e (0,0))
 res:∀p,p∈res->Has w B e sz p.1 p.2/\∀b,p.1.ownBlock=some b->v.ownBlock=some b\/w0.heap.size<=b
theorem Stt.start (h:w.ownsRow B e sz v n xs):Stt w w B e sz v n xs zc [] [(v,n)] :=
 ⟨h,rfl,rfl,rfl,L1c _,fun b hb=>(h.lt b hb).2,fun _ _ _=>rfl,fun p hp=>(by cases hp),fun p hp=>by
  rw[List.mem_singleton] at hp;subst hp;exact⟨⟨xs,h⟩,fun b hb=>L4a hb⟩⟩
theorem Stt.drew (h:Stt w0 w B e sz v n xs zc lits res):Stt w0 w.drew B e sz v n xs zc lits res :=
 ⟨h.own.drew,h.os,h.tape,h.output,h.size,h.vlt,h.keep,h.lit,fun p hp=>⟨(h.res p hp).1.block fun _ _=>rfl,(h.res p hp).2⟩⟩
theorem Stt.build (h:Stt w0 w B e sz v n xs zc lits res) (m:Nat):Stt w0 (w.alloc (.cells ((List.replicate m zc).flatten).toArray e (0,0))) B e sz v n xs zc ((w.heap.size,m)::lits) res:=by
 have hk:∀k,k < w.heap.size->(w.alloc (.cells ((List.replicate m zc).flatten).toArray e (0,0))).heap[k]?=w.heap[k]?:=fun k hk=>Below.heap_alloc _ _ _ hk
 have hs:=h.size;refine⟨A6 h.own fun b hb=>hk b (h.own.lt b hb).2,h.os,h.tape,h.output,by simp;omega,h.vlt,fun k hl hn=>(hk k R4).trans (h.keep k hl hn),fun p hp=>?_,fun p hp=>?_⟩
 ·rcases List.mem_cons.1 hp with rfl | hp
  ·exact ⟨hs,heap_alloc_new w _⟩
  ·obtain ⟨h1,h2⟩:=h.lit p hp
   exact⟨h1,(hk p.1 (L2b.1 h2).1).trans h2⟩
 ·obtain ⟨⟨ys,hy⟩,h2⟩:=h.res p hp
  exact⟨⟨ys,A6 hy fun b hb=>hk b (hy.lt b hb).2⟩,h2⟩
theorem Stt.app {v':Value} {m:Nat} {news:List Value} (h:Stt w0 w B e sz v n xs zc lits res) (h2:w'.ownsRow B e sz v' (n+m) (xs++news)) (h3:w'.ownsRow B e sz v n xs) (h4:w.grownBy w' v.ownBlock) (h5:∀g,v'.ownBlock=some g->v.ownBlock=some g\/g=w.heap.size) (h6:∀B2 v2 n2,Has w B2 e sz v2 n2->Has w' B2 e sz v2 n2):Stt w0 w' B e sz v n xs zc lits ((v',n+m)::res):=by
 have hs:=h.size;have xa:=h4.size;refine⟨h3,h4.os.trans h.os,h4.tape.trans h.tape,h4.output.trans h.output,by omega,h.vlt,fun k hl hn=>(h4.block k R4 fun e=>hn e.symm).trans (h.keep k hl hn),fun p hp=>?_,fun p hp=>?_⟩
 ·obtain ⟨q1,q2⟩:=h.lit p hp
  refine⟨q1,(h4.block p.1 (L2b.1 q2).1 fun e=>?_).trans q2⟩;have:=h.vlt p.1 e.symm;omega
 ·rcases List.mem_cons.1 hp with rfl | hp
  ·refine ⟨⟨_,h2⟩,fun b hb=>?_⟩
   rcases h5 b hb with e | e
   ·exact L4a e
   ·exact L4b R4
  ·exact ⟨h6 _ _ _ (h.res p hp).1,(h.res p hp).2⟩
end
section
variable {W wr:World} {e k off sz:Nat} {p:Value × Nat} {vs:List (Value × Nat)} {zv:Nat->Value}
structure Wr (W wr:World) (e sz:Nat) (zv:Nat->Value) (vs:List (Value × Nat)) (k off:Nat):Prop where
 size:wr.heap.size=W.heap.size
 os:wr.os=W.os
 tape:wr.tape=W.tape
 output:wr.output=W.output
 keep:∀b,(∀p,p∈vs->p.1.ownBlock≠some b)->wr.heap[b]?=W.heap[b]?
 has:∀p,p∈vs->Has wr 0 e sz p.1 p.2
 zed:∀k' p,vs[k']?=some p->k' < k->Zed wr zv p.1 (p.2*sz)
 cur:∀p,vs[k]?=some p->Zed wr zv p.1 off
theorem Wr.start (h:∀p,p∈vs->Has W 0 e sz p.1 p.2):Wr W W e sz zv vs 0 0 :=
 ⟨rfl,rfl,rfl,rfl,fun _ _=>rfl,h,fun _ _ _ hk=>by omega,fun _ _=>Zed.zero _ _ _⟩
theorem Wr.drew (h:Wr W wr e sz zv vs k off):Wr W wr.drew e sz zv vs k off :=
 ⟨h.size,h.os,h.tape,h.output,h.keep,fun p hp=>(h.has p hp).block fun _ _=>rfl,fun k' p e1 e2=>(h.zed k' p e1 e2).block fun _ _=>rfl,fun p e1=>(h.cur p e1).block fun _ _=>rfl⟩
theorem Wr.next {b:Nat} (h:Wr W wr e sz zv vs k off) (hp:vs[k]?=some p) (hb:p.1.ownBlock=some b) (hc:∃z,wr.cell? ⟨b,off,none⟩=some z):Wr W (wr.setCell ⟨b,off,none⟩ (zv off)) e sz zv vs k (off+1) :=
 ⟨by rw [<- h.size];simp,h.os,h.tape,h.output,fun b' hb'=>(heap_setCell_other _ _ _ _ fun e=>hb' p (L2a hp) (by rw [hb,e])).trans (h.keep b' hb'),fun q hq=>(h.has q hq).set _ _ _,fun k' q e1 e2=>(h.zed k' q e1 e2).set _ _,fun q hq=>by
  rw[hp] at hq;obtain rfl:=L5b hq;exact (h.cur p hp).next hb hc⟩
theorem Wr.done (h:Wr W wr e sz zv vs k (p.2*sz)) (hp:vs[k]?=some p):Wr W wr e sz zv vs (k+1) 0 :=
 ⟨h.size,h.os,h.tape,h.output,h.keep,h.has,fun k' q e1 e2=>by
  by_cases e3:k'=k
  ·subst e3
   rw[hp] at e1;obtain rfl:=L5b e1;exact h.cur p hp
  ·exact h.zed k' q e1 R4,fun _ _=>Zed.zero _ _ _⟩
structure uP (w w':World) (yb j:Nat) (av v av':Value) (nb:Nat) (vs:List (Value × Nat)):Prop where
 os:w'.os=w.os
 tape:w'.tape=w.tape
 output:w'.output=w.output
 size:w.heap.size<=w'.heap.size
 keep:∀k,k < w.heap.size->k≠yb->av.ownBlock≠some k->v.ownBlock≠some k->w'.heap[k]?=w.heap[k]?
 yc:∀i,i≠j->w'.cell? ⟨yb,i,none⟩=w.cell? ⟨yb,i,none⟩
 yf:∀i,w'.frozen? ⟨yb,i,none⟩=w.frozen? ⟨yb,i,none⟩
 nbn:w.heap.size<=nb
 vsn:∀p,p∈vs->∀b,p.1.ownBlock=some b->v.ownBlock=some b\/w.heap.size<=b
 avn:∀b,av'.ownBlock=some b->av.ownBlock=some b\/w.heap.size<=b
theorem gZ {w Wv w5:World} {te ta yb j na:Nat} {av v av':Value} {n nb:Nat} {al xs xs0 zc:List Value} {lits:List (Nat × Nat)} {o:Obj} 
  (hS:Stt w Wv 0 e sz v n xs zc lits vs) (hv0:w.ownsRow 0 e sz v n xs0) (hnb:nb=Wv.heap.size) (hwr:Wr (Wv.alloc (.cells (vs.reverse.map Prod.fst).toArray te (0,0))) wr e sz zv vs.reverse vs.length 0)
  (ha:w.ownsRow 0 ta 1 av na al) (hta:ta≠e) (hyb:yb < w.heap.size) (hy1:av.ownBlock≠some yb) (hy2:v.ownBlock≠some yb)
  (hg:(wr.alloc o).grownBy w5 av.ownBlock) (ho:w5.ownsRow 0 ta 1 av' (na+1) (al++[.slice (some ⟨nb,0,none⟩) 4 4])) (hat:∀g,av'.ownBlock=some g->av.ownBlock=some g\/g=(wr.alloc o).heap.size) (hj:∃z,w.cell? ⟨yb,j,none⟩=some z) :
  w5.cell? ⟨yb,j,none⟩=w.cell? ⟨yb,j,none⟩/\w5.frozen? ⟨yb,j,none⟩=w.frozen? ⟨yb,j,none⟩/\yb < w5.heap.size /\
  Z8 (w5.setCell ⟨yb,j,none⟩ av') e sz te zv nb vs.reverse/\(w5.setCell ⟨yb,j,none⟩ av').cell? ⟨yb,j,none⟩=some av'/\(w5.setCell ⟨yb,j,none⟩ av').ownsRow 0 ta 1 av' (na+1) (al++[.slice (some ⟨nb,0,none⟩) 4 4])/\uP w (w5.setCell ⟨yb,j,none⟩ av') yb j av v av' nb vs.reverse:=by
 subst hnb;have hs:=hS.size;have xj:=hwr.size;have xi:(Wv.alloc (.cells (vs.reverse.map Prod.fst).toArray te (0,0))).heap.size=Wv.heap.size+1:=by simp
 have xg:(wr.alloc o).heap.size=Wv.heap.size+2:=by simp;omega
 have xh:Wv.heap.size+2<=w5.heap.size:=by have:=hg.size;omega
 have xa:∀p,p∈vs.reverse->∀b,p.1.ownBlock=some b->(v.ownBlock=some b\/w.heap.size<=b)/\b < Wv.heap.size:=fun p hp b hb=>by
  obtain⟨⟨ys,hy⟩,h2⟩:=hS.res p (List.mem_reverse.1 hp);exact⟨h2 b hb,(hy.lt b hb).2⟩
 have xb:∀b,av.ownBlock=some b->b < w.heap.size:=fun b hb=>(ha.lt b hb).2
 have xf:∀b,v.ownBlock=some b->av.ownBlock≠some b:=fun b hb hb'=>G8 ha hv0 hta b hb' hb
 have F1:∀k,k < Wv.heap.size+1->k≠yb->av.ownBlock≠some k->(w5.setCell ⟨yb,j,none⟩ av').heap[k]?=wr.heap[k]?:=fun k hk h1 h2=>by
  rw[heap_setCell_other _ _ _ _ h1,hg.block k R4 (fun e=>h2 e.symm)];exact Below.heap_alloc _ _ _ R4
 have F2:∀k,k < w.heap.size->v.ownBlock≠some k->wr.heap[k]?=w.heap[k]?:=fun k hk hn=>by
  rw[hwr.keep k fun p hp hb=>?_]
  ·rw [Below.heap_alloc _ _ _ R4]
   exact hS.keep k hk hn
  ·rcases (xa p hp k hb).1 with h | h
   ·exact hn h
   ·omega
 have F3:w5.heap[yb]?=w.heap[yb]?:=by
  rw[hg.block yb R4 (fun e=>hy1 e.symm),Below.heap_alloc _ _ _ R4];exact F2 yb hyb hy2
 have c5:∀i,w5.cell? ⟨yb,i,none⟩=w.cell? ⟨yb,i,none⟩:=fun i=>L0b (a:=⟨yb,i,none⟩) F3
 have z5:∀i,w5.frozen? ⟨yb,i,none⟩=w.frozen? ⟨yb,i,none⟩:=fun i=>L0c (a:=⟨yb,i,none⟩) F3
 have xe:∀p,p∈vs.reverse->∀b,p.1.ownBlock=some b->(w5.setCell ⟨yb,j,none⟩ av').heap[b]?=wr.heap[b]?:=fun p hp b hb=>by
  obtain⟨h1,h2⟩:=xa p hp b hb;refine F1 b R4 (fun e=>?_) (fun e=>?_)
  ·rw [e] at h1
   rcases h1 with h | h
   ·exact hy2 h
   ·omega
  ·rcases h1 with h | h
   ·exact xf b h e
   ·have:=xb b e;omega
 obtain⟨z,hz⟩:=hj;refine⟨c5 j,z5 j,by omega,⟨?_,fun p hp=>(hwr.has p hp).block (xe p hp),fun p hp=>?_⟩,World.cell?_setCell_same _ _ _ ((c5 j).trans hz),A6 ho fun b hb=>heap_setCell_other _ _ _ _ fun e=>?_,⟨?_,?_,?_,?_,fun k hk h1 h2 h3=>(F1 k R4 h1 h2).trans (F2 k hk h3),fun i hi=>?_,fun i=>?_,hs,fun p hp b hb=>(xa p hp b hb).1,fun b hb=>?_⟩⟩
 ·rw [F1 Wv.heap.size R4 R4 (fun e=>by have:=xb _ e;omega),hwr.keep Wv.heap.size fun p hp hb=>by have:=(xa p hp _ hb).2;omega]
  exact heap_alloc_new Wv _
 ·obtain ⟨k',xd⟩:=List.mem_iff_getElem?.1 hp
  have xc:=(L1a.1 xd).1;rw[List.length_reverse] at xc;exact (hwr.zed k' p xd xc).block (xe p hp)
 ·have e':b=yb:=e
  rcases hat b hb with h | h
  ·exact hy1 (by rw [<- e'];exact h)
  ·omega
 ·show w5.os=_;rw [hg.os];show wr.os=_;rw [hwr.os];exact hS.os
 ·show w5.tape=_;rw [hg.tape];show wr.tape=_;rw [hwr.tape];exact hS.tape
 ·show w5.output=_;rw [hg.output];show wr.output=_;rw [hwr.output];exact hS.output
 ·simp;omega
 ·refine (World.cell?_setCell_other _ _ _ _ fun e=>?_).trans (c5 i)
  simp only[Addr.mk.injEq] at e;exact hi e.2.1.symm
 ·rw [<- z5 i];go_simp
 ·rcases hat b hb with h | h
  ·exact L4a h
  ·exact L4b R4
end
theorem a6O:(prog.info? 3).map (fun i=>(i.zero,i.size,i.bytes))=some (some (.int .i64 0),1,8):=by kernel_rfl
theorem a6P:(prog.info? 109).map (fun i=>(i.zero,i.size,i.bytes))=some (some (.slice none 0 0),1,24):=by kernel_rfl
def aU (e sz te ta yb j na:Nat) (zv:Nat->Value) (av v:Value) (al:List Value) (w w':World):Prop :=
 ∃nb vs av',vs.length=4/\Z8 w' e sz te zv nb vs/\w'.cell? ⟨yb,j,none⟩=some av'/\w'.ownsRow 0 ta 1 av' (na+1) (al++[.slice (some ⟨nb,0,none⟩) 4 4])/\uP w w' yb j av v av' nb vs
theorem a2L {w:World} {yb na n:Nat} {av v:Value} {al xs:List Value} (hy:yb < w.heap.size) (hc:w.cell? ⟨yb,1,none⟩=some av) (hz:w.frozen? ⟨yb,1,none⟩=false)
  (ha:w.ownsRow 0 109 1 av na al) (hv:w.ownsRow 0 3 1 v n xs) (hna:na<=1000000000) (hn:n<=1000000) (hy1:av.ownBlock≠some yb) (hy2:v.ownBlock≠some yb) :
  Calls prog 24 #[.pointer (some ⟨yb,1,none⟩),v] w fun e w'=>e=.returned (.tuple #[])/\aU 3 1 24 109 yb 1 na (fun _=>.int .i64 (-7070 - (na:Int))) av v al w w':=by
 obtain⟨aa,ac,yr,_⟩:=B4 ha;subst yr;obtain⟨va,vc,yl,zf⟩:=B4 hv;subst yl;obtain⟨i3,xy,xx,xn,yh⟩:=info_parts a6O;obtain⟨i9,ye,yc,yd,xw⟩:=info_parts a6P;have HI:=hid (And.intro xy (And.intro xx (And.intro xn yh)));have HN:=hid (And.intro ye (And.intro yc (And.intro yd xw)));have S0:Hid (Stt w w 0 3 1 (.slice va n vc) n xs [.int .i64 (-7070 - (na:Int))] [] [(.slice va n vc,n)]):=hid (Stt.start hv)
 have HA:=hid ha;have HV:=hid hv;have ze:IntKind.i64.wrap (-7070 - (na:Int)) = -7070 - (na:Int):=Go.IntWalk.i64_in _ R4;clear xy xx xn yh ye yc yd xw ha hv;go_enter func24,ntmps24;have T1:=hid (S0.out.build 1);go_wp2_with (at_builtin;go_must (refine U9 _ rfl (.tmp 15) (.tmp 17) 24 rfl 0 3 i3 _ 1 8 underlying24 HI.out.1 HI.out.2.1 HI.out.2.2.1 HI.out.2.2.2 rfl R3 (.slice va n vc) n xs rfl T1.out.own ⟨w.heap.size,0,none⟩ 1 1 R3 [.int .i64 (-7070 - (na:Int))] rfl rfl (World.news_of_block (cs:=#[.int .i64 (-7070 - (na:Int))]) (t:=3) (fr:=(0,0)) (B1 R5)) (by intro u hu;simp at hu;subst hu;rfl) Q5 R4 R5 ?_))
 intro v1 w1 h2 h3 h4 h5 h6;obtain⟨a1,c1,ym,zk⟩:=B4 h2;subst ym;have S1:=hid (T1.out.app h2 h3 h4 (fun g hg=>by rcases h5 g hg with e | e;exact L4a e;exact L4b (by rw [e];simp)) h6);have k1:w1.cell? ⟨yb,1,none⟩=some (.slice aa na ac):=(L0b (a:=⟨yb,1,none⟩) (S1.out.keep yb hy hy2)).trans hc;have q1:w1.frozen? ⟨yb,1,none⟩=false:=(L0c (a:=⟨yb,1,none⟩) (S1.out.keep yb hy hy2)).trans hz
 have zh:=S1.out.size;clear h2 h3 h4 h5 h6;have T2:=hid (S1.out.build 2);go_wp2_with (at_builtin;go_must (refine U9 _ rfl (.tmp 19) (.tmp 22) 24 rfl 0 3 i3 _ 1 8 underlying24 HI.out.1 HI.out.2.1 HI.out.2.2.1 HI.out.2.2.2 rfl R3 (.slice va n vc) n xs rfl T2.out.own ⟨w1.heap.size,0,none⟩ 2 2 R3 [.int .i64 (-7070 - (na:Int)),.int .i64 (-7070 - (na:Int))] rfl rfl (World.news_of_block (cs:=#[.int .i64 (-7070 - (na:Int)),.int .i64 (-7070 - (na:Int))]) (t:=3) (fr:=(0,0)) (B1 R5)) (by intro u hu;simp at hu;subst hu;rfl) Q5 R4 R5 ?_))
 intro v2 w2 h2 h3 h4 h5 h6;obtain⟨a2,c2,yk,zi⟩:=B4 h2;subst yk;have S2:=hid (T2.out.app h2 h3 h4 (fun g hg=>by rcases h5 g hg with e | e;exact L4a e;exact L4b (by rw [e];simp)) h6);have k2:w2.cell? ⟨yb,1,none⟩=some (.slice aa na ac):=(L0b (a:=⟨yb,1,none⟩) (S2.out.keep yb hy hy2)).trans hc;have q2:w2.frozen? ⟨yb,1,none⟩=false:=(L0c (a:=⟨yb,1,none⟩) (S2.out.keep yb hy hy2)).trans hz
 have zd:=S2.out.size;clear h2 h3 h4 h5 h6;have T3:=hid (S2.out.build 3);go_wp2_with (at_builtin;go_must (refine U9 _ rfl (.tmp 24) (.tmp 28) 24 rfl 0 3 i3 _ 1 8 underlying24 HI.out.1 HI.out.2.1 HI.out.2.2.1 HI.out.2.2.2 rfl R3 (.slice va n vc) n xs rfl T3.out.own ⟨w2.heap.size,0,none⟩ 3 3 R3 [.int .i64 (-7070 - (na:Int)),.int .i64 (-7070 - (na:Int)),.int .i64 (-7070 - (na:Int))] rfl rfl (World.news_of_block (cs:=#[.int .i64 (-7070 - (na:Int)),.int .i64 (-7070 - (na:Int)),.int .i64 (-7070 - (na:Int))]) (t:=3) (fr:=(0,0)) (B1 R5)) (by intro u hu;simp at hu;subst hu;rfl) Q5 R4 R5 ?_))
 intro v3 w3 h2 h3 h4 h5 h6;obtain⟨a3,c3,yv,zp⟩:=B4 h2;subst yv;have S3:=hid (T3.out.app h2 h3 h4 (fun g hg=>by rcases h5 g hg with e | e;exact L4a e;exact L4b (by rw [e];simp)) h6);have k3:w3.cell? ⟨yb,1,none⟩=some (.slice aa na ac):=(L0b (a:=⟨yb,1,none⟩) (S3.out.keep yb hy hy2)).trans hc;have q3:w3.frozen? ⟨yb,1,none⟩=false:=(L0c (a:=⟨yb,1,none⟩) (S3.out.keep yb hy hy2)).trans hz
 have xn:=S3.out.size;clear h2 h3 h4 h5 h6;go_wp2_with fail;obtain⟨vs,xd⟩:∃vs:List (Value × Nat),vs=[(.slice va n vc,n),(.slice a1 (n+1) c1,n+1),(.slice a2 (n+2) c2,n+2),(.slice a3 (n+3) c3,n+3)]:=⟨_,rfl⟩
 have yy:Hid (Wr (w3.alloc (.cells #[.slice va n vc,.slice a1 (n+1) c1,.slice a2 (n+2) c2,.slice a3 (n+3) c3] 24)) (w3.alloc (.cells #[.slice va n vc,.slice a1 (n+1) c1,.slice a2 (n+2) c2,.slice a3 (n+3) c3] 24)) 3 1 (fun _=>.int .i64 (-7070 - (na:Int))) vs 0 0):=hid (Wr.start fun p hp=>by
  rw[xd] at hp;have hm:p∈[(.slice a3 (n+3) c3,n+3),(.slice a2 (n+2) c2,n+2),(.slice a1 (n+1) c1,n+1),((.slice va n vc:Value),n)]:=by simp at hp ⊢;rcases hp with h | h | h | h <;> simp [h]
  exact (S3.out.res p hm).1.block fun b hb=>Below.heap_alloc _ _ _ (by
   obtain⟨ys,xk⟩:=(S3.out.res p hm).1;exact (xk.lt b hb).2))
 have yj:vs.length=4:=by rw [xd];rfl
 have xg:Hid ((w3.alloc (.cells #[.slice va n vc,.slice a1 (n+1) c1,.slice a2 (n+2) c2,.slice a3 (n+3) c3] 24)).heap[w3.heap.size]?=some (.cells (vs.map Prod.fst).toArray 24 (0,0))):=hid (by rw [xd];exact heap_alloc_new w3 _);have yg:Hid (∀p,p∈vs->p.1.ownBlock≠some w3.heap.size):=hid fun p hp hb=>by
  rw[xd] at hp;have hm:p∈[(.slice a3 (n+3) c3,n+3),(.slice a2 (n+2) c2,n+2),(.slice a1 (n+1) c1,n+1),((.slice va n vc:Value),n)]:=by simp at hp ⊢;rcases hp with h | h | h | h <;> simp [h]
  obtain⟨ys,xk⟩:=(S3.out.res p hm).1;have:=(xk.lt _ hb).2;omega
 have xv:∀p,p∈vs->p.2<=n+3:=fun p hp=>by rw [xd] at hp;simp at hp;rcases hp with h | h | h | h <;> rw [h] <;> simp
 have yu:=hid xv;have xi:=hid xd;obtain⟨nb,xm⟩:∃nb,nb=w3.heap.size:=⟨_,rfl⟩
 have xe:(w3.alloc (.cells #[.slice va n vc,.slice a1 (n+1) c1,.slice a2 (n+2) c2,.slice a3 (n+3) c3] 24)).heap.size=w3.heap.size+1:=by simp
 generalize hW4:(w3.alloc (.cells #[.slice va n vc,.slice a1 (n+1) c1,.slice a2 (n+2) c2,.slice a3 (n+3) c3] 24))=W4 at *
 rw[<- xm] at xg yg ⊢;have xf:=hid xm;have xo:=hid hW4;have xl:=hid xe;clear xv xd k1 k2 k3 q1 q2 q3 xm hW4 xe;go_loopw [6] (fun vi wr=>∃k:Nat,k<=4/\vi=.int .i64 k/\Wr W4 wr 3 1 (fun _=>.int .i64 (-7070 - (na:Int))) vs k 0) (fun vi _=>4 - (intOf vi).toNat)
 case atStart=>exact ⟨0,by omega,rfl,yy.out⟩
 case round =>
  obtain⟨k,hk,rfl,xa⟩:=hrel;by_cases hlt:k < 4
  ·obtain ⟨p,hp⟩:∃p,vs[k]?=some p:=⟨_,L1b R4⟩
   have yn:(k:Int) < 4:=by omega
   have xt:=hid xa;have xq:=L2a hp;obtain⟨pa,pc,xz,zc,_⟩:=(xa.has p xq).form;have zm:=yu.out p xq;have xb:∀u:World,(∀b,(∀p,p∈vs->p.1.ownBlock≠some b)->u.heap[b]?=W4.heap[b]?)->u.cell? ⟨nb,k,none⟩=some p.1/\nb < u.heap.size:=fun u hu=>by
    have h1:=(hu nb yg.out).trans xg.out;refine⟨?_,(L2b.1 h1).1⟩;simp only[World.cell?,h1];simp[List.getElem?_map,hp]
   have xc:=hid xb;have c0:=(xb wr xa.keep).1;have xr:=(xb wr xa.keep).2;rw[xz] at c0;clear xb xa;go_wp2_with fail;go_loopw [7] (fun vi wr=>∃i:Nat,i<=p.2/\vi=.int .i64 i/\Wr W4 wr 3 1 (fun _=>.int .i64 (-7070 - (na:Int))) vs k i) (fun vi _=>p.2 - (intOf vi).toNat)
   case atStart=>exact ⟨0,by omega,rfl,xt.out⟩
   case round =>
    obtain⟨i,hi,rfl,xa⟩:=hrel;have c0:=(xc.out wr xa.keep).1;have xr:=(xc.out wr xa.keep).2;have yf:=hid xa;by_cases hli:i < p.2
    ·obtain ⟨zj,zn,xj,yw,za⟩:=(xa.has p xq).form
     obtain⟨b,rfl,yt,zo,ya,yi⟩:=za R4;obtain⟨z,yp⟩:=yi i R4;have zl:=ya i;rw[xj] at c0;have yx:(i:Int) < (p.2:Int):=by omega
     clear xa ya yi;go_wp2_with fail;go_roundw
     case rel=>exact ⟨i+1,by omega,by go_num,yf.out.next hp yt ⟨z,yp⟩⟩
     case measure=>simp [intOf];omega
    ·obtain rfl:i=p.2:=by omega
     have zg:¬(p.2:Int) < (p.2:Int):=by omega
     rw[xz] at c0;clear xa;go_wp2_with fail;go_roundw
     case rel=>exact ⟨k+1,by omega,by go_num,Wr.done (by rw [Nat.mul_one];exact yf.out) hp⟩
     case measure=>simp [intOf];omega
  ·obtain rfl:k=4:=by omega
   have xt:=hid xa;have xp:wr.heap[yb]?=w.heap[yb]?:=by
    rw[xa.keep yb fun p hp hb=>?_,<- xo.out,Below.heap_alloc _ _ _ (by have:=xf.out;omega)]
    ·exact S3.out.keep yb hy hy2
    ·rw [xi.out] at hp
     have hm:p∈[(.slice a3 (n+3) c3,n+3),(.slice a2 (n+2) c2,n+2),(.slice a1 (n+1) c1,n+1),((.slice va n vc:Value),n)]:=by simp at hp ⊢;rcases hp with h | h | h | h <;> simp [h]
     rcases (S3.out.res p hm).2 yb hb with h | h
     ·exact hy2 h
     ·omega
   have y1:wr.cell? ⟨yb,1,none⟩=some (.slice aa na ac):=(L0b (a:=⟨yb,1,none⟩) xp).trans hc;have y2:wr.frozen? ⟨yb,1,none⟩=false:=(L0c (a:=⟨yb,1,none⟩) xp).trans hz;have zb:yb < wr.heap.size:=by have:=xa.size;have:=xl.out;omega
   have yo:Hid (wr.ownsRow 0 109 1 (.slice aa na ac) na al):=hid (A6 HA.out fun b hb=>by
    have yz:=(HA.out.lt b hb).2;have xu:(Value.slice va n vc).ownBlock≠some b:=fun e=>G8 HA.out HV.out R3 b hb e
    rw[xa.keep b fun p hp hb'=>?_,<- xo.out,Below.heap_alloc _ _ _ R4]
    ·exact S3.out.keep b yz xu
    ·rw [xi.out] at hp
     have hm:p∈[(.slice a3 (n+3) c3,n+3),(.slice a2 (n+2) c2,n+2),(.slice a1 (n+1) c1,n+1),((.slice va n vc:Value),n)]:=by simp at hp ⊢;rcases hp with h | h | h | h <;> simp [h]
     rcases (S3.out.res p hm).2 b hb' with h | h
     ·exact xu h
     ·omega)
   clear xa xp;go_wp2_with (at_builtin;go_must (refine A9 _ rfl (.tmp 57) (.tmp 59) 29 rfl 0 109 i9 _ 1 24 underlying29 HN.out.1 HN.out.2.1 HN.out.2.2.1 HN.out.2.2.2 rfl R3 (.slice aa na ac) na al rfl (yo.out.alloc _) (some ⟨wr.heap.size,0,none⟩) 1 1 [.slice (some ⟨nb,0,none⟩) 4 4] rfl rfl (fun _=>⟨_,rfl,World.news_of_block (cs:=#[.slice (some ⟨nb,0,none⟩) 4 4]) (t:=109) (fr:=(0,0)) (B1 (by first | rfl | simp))⟩) (by intro u hu;simp at hu;subst hu;rfl) Q5 R4 R5 ?_))
   intro v5 w5 hown5 hgrow5 hat5;obtain⟨a5,c5,yq,_⟩:=B4 hown5;subst yq;have xh:vs=[(.slice a3 (n+3) c3,n+3),(.slice a2 (n+2) c2,n+2),(.slice a1 (n+1) c1,n+1),((.slice va n vc:Value),n)].reverse:=xi.out;obtain⟨e1,e2,e3,e4,e5,e6,e7⟩:=gZ (te:=24) (zv:=fun _=>.int .i64 (-7070 - (na:Int))) S3.out HV.out xf.out (by rw [<- xh];rw [show w3.alloc (.cells (vs.map Prod.fst).toArray 24 (0,0))=W4 by rw [<- xo.out,xi.out];rfl];exact xt.out) HA.out R3 hy hy1 hy2 hgrow5 hown5 (fun g hg=>by rcases hat5 g hg with e | e;exact L4a e;exact L4b (by rw [e];simp)) ⟨_,hc⟩
   rw[hc] at e1;rw[hz] at e2;rw[<- xh] at e4 e7;have HE:=hid (And.intro e4 (And.intro e5 (And.intro e6 e7)));clear hown5 hgrow5 hat5 e4 e5 e6 e7;go_wp2_with fail;go_end0
   exact⟨rfl,nb,vs,_,yj,HE.out.1,HE.out.2.1,HE.out.2.2.1,HE.out.2.2.2⟩
section
variable {e n sz:Nat} {lits:List (Nat × Nat)} {res:List (Value × Nat)} {v:Value} {w w0:World} {xs zc:List Value}
def TI (t e sz:Nat):Prop:=∃(i:TypeInfo) (z:Value) (bytes:Nat),prog.underlying t=some (.slice e)/\prog.info? e=some i/\i.zero=some z/\i.size=sz/\i.bytes=bytes/\z.cells.size=sz/\0 < sz/\bytes<=1000
theorem a0t (h:zc.length=sz) (m:Nat):((List.replicate m zc).flatten).length=m*sz:=by
 induction m with
 | zero=>simp
 | succ m ih=>rw [List.replicate_succ,List.flatten_cons,List.length_append,ih,h,Nat.succ_mul];omega
theorem Stt.step {t:Nat} {va:Option Addr} {vc:Nat} {ops:Array Oper} {o:Oper} {a:Act} {K:Act->World->Prop} {Q:Exit->Act->World->Prop} {E:Prop} (S:Stt w0 w 0 e sz (.slice va n vc) n xs zc lits res) (hT:TI t e sz) (hgd:o.guard=none) (s x:Operand)
  (ho:o.op=.call { callee:=.builtin .append,args:=#[s,x],argTypes:=#[t,t] }) (hs:a.eval s=.slice va n vc) (x1 m:Nat) (hx:a.eval x=.slice (some ⟨x1,0,none⟩) m m) (hp:(x1,m)∈lits) (hm:0 < m) (hm3:m<=3) (hn:n<=1000000) (hzc:zc.length=sz) (hone:∀u,u∈zc->u.oneCell'=true)
  (h:∀a' c' w',Stt w0 w' 0 e sz (.slice va n vc) n xs zc lits ((.slice a' (n+m) c',n+m)::res)->K (a.put o.dst (.slice a' (n+m) c')) w') :
  if Region.wanted o (yielded ops a.tmps)=true then Oper.wp prog o a w K Q else E:=by
 have hw:Region.wanted o (yielded ops a.tmps)=true:=by simp [Region.wanted,hgd]
 rw[if_pos hw];obtain⟨i,z,xa,t1,t2,t3,t4,t5,t6,t7,t8⟩:=hT;obtain⟨xg,xc⟩:=S.lit (x1,m) hp;have xb:∀j u,((List.replicate m zc).flatten)[j]?=some u->w.cell? ((⟨x1,0,none⟩:Addr).add j)=some u:=World.news_of_block (cs:=((List.replicate m zc).flatten).toArray) (t:=e) (fr:=(0,0)) xc
 have xf:(n+m)*xa<=140737488355328:=L5a (Nat.mul_le_mul (show n+m<=1000003 by omega) t8) R3;obtain⟨v',w',hr,h2,h3,h4,h5,h6⟩:=dF (P:=prog) w 0 t o.type e i z sz xa t1 t2 t3 t4 t5 t6 t7 (.slice va n vc) n xs S.own ⟨x1,0,none⟩ m m hm ((List.replicate m zc).flatten) (a0t hzc m) xb (fun u hu=>by
  obtain⟨l,hl,xd⟩:=List.mem_flatten.1 hu;rw[(List.mem_replicate.1 hl).2] at xd;exact hone u xd) Q5 xf (L4c _)
 obtain⟨a',c',xe,_⟩:=B4 h2;subst xe;unfold Oper.wp execOp;simp only[ho,resolve,invoke,builtin,Sem.run_bind,Sem.run_pure,Result.andThen_ok,List.map_toArray,List.map_cons,List.map_nil,hs,hx,hr];exact h a' c' w' (S.app h2 h3 h4 h5 h6)
theorem Stt.z (S:Stt w0 w 0 e sz v n xs zc lits res) {zb j:Nat} {u:Value} (hz:zb < w0.heap.size) (hv:v.ownBlock≠some zb) (hc:w0.cell? ⟨zb,j,none⟩=some u):w.cell? ⟨zb,j,none⟩=some u:=(L0b (a:=⟨zb,j,none⟩) (S.keep zb hz hv)).trans hc
theorem Stt.rebase {V ww:World} (S:Stt V ww 0 e sz v n xs zc lits res) (hB:L0d w V) {xs0:List Value} (hv:w.ownsRow 0 e sz v n xs0):Stt w ww 0 e sz v n xs zc lits res:=by
 have hs:=hB.size;exact⟨S.own,S.os.trans hB.os,S.tape.trans hB.tape,S.output.trans hB.output,L5a hs S.size,fun b hb=>(hv.lt b hb).2,fun k hk hn=>(S.keep k R4 hn).trans (hB.block k hk),fun p hp=>⟨L5a hs (S.lit p hp).1,(S.lit p hp).2⟩,fun p hp=>⟨(S.res p hp).1,fun b hb=>by
  rcases (S.res p hp).2 b hb with h | h
  ·exact L4a h
  ·exact L4b R4⟩⟩
end
end Go.Proofs.YtbkmgoffiigdbaaGreatDoor
