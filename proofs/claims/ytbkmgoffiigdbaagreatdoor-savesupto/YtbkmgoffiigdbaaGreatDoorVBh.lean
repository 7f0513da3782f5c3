import Derived.Test.YtbkmgoffiigdbaaGreatDoorVCg
namespace Go.Proofs.YtbkmgoffiigdbaaGreatDoor
open Go.RowKit Go.Sort Go.Proofs.Tryz
set_option maxHeartbeats 2000000
set_option maxRecDepth 100000
def Lit (o:Option Value) (m:Nat) (lits:List (Nat × Nat)):Prop:=∃k,o=some (.slice (zA k) m m)/\(k,m)∈lits
end Go.Proofs.YtbkmgoffiigdbaaGreatDoor
namespace Go.Proofs.YtbkmgoffiigdbaaGreatDoor
set_option maxHeartbeats 2000000
set_option maxRecDepth 100000
open Go.RowKit Go.Sort
end Go.Proofs.YtbkmgoffiigdbaaGreatDoor
namespace Go.Proofs.YtbkmgoffiigdbaaGreatDoor
open Go.RowKit Go.Sort Go.Proofs.Tryz
set_option maxHeartbeats 2000000
set_option maxRecDepth 100000
section
variable {P:A5} {j yb:Nat} {w w':World}
structure PlR where
 ps:List (Nat × Nat)
 psv:Value
 v:Nat->Value
 l:Nat->List Nat
def tyE (j:Nat):Nat:=if j=1 then 109 else if j=2 then 128 else if j=3 then 132 else if j=4 then 83 else 88
def eF (p:Nat × Nat):List Value:=[zB p.1,zB p.2]
def a8S (nb:Nat):Value:=.slice (zA nb) 4 4
structure I5 (w:World) (yb:Nat) (Y:PlR):Prop where
 me:yb < w.heap.size
 fz:∀j,w.frozen? ⟨yb,j,none⟩=false
 c0:w.cell? ⟨yb,0,none⟩=some Y.psv
 row0:w.ownsRow 0 48 2 Y.psv Y.ps.length (Y.ps.flatMap eF)
 ne0:Y.psv.ownBlock≠some yb
 c:∀j,1<=j->j<=5->w.cell? ⟨yb,j,none⟩=some (Y.v j)
 row:∀j,1<=j->j<=5->w.ownsRow 0 (tyE j) 1 (Y.v j) (Y.l j).length ((Y.l j).map a8S)
 ne:∀j,1<=j->j<=5->(Y.v j).ownBlock≠some yb
def aE (yb:Nat) (Y:PlR) (k:Nat):Prop:=k=yb\/Y.psv.ownBlock=some k\/∃j,1<=j/\j<=5/\(Y.v j).ownBlock=some k
theorem I5.lt {Y:PlR} (h:I5 w yb Y):∀k,aE yb Y k->k < w.heap.size:=fun k hk=>by
 rcases hk with rfl | hk | ⟨j,h1,h2,hk⟩
 ·exact h.me
 ·exact (h.row0.lt k hk).2
 ·exact ((h.row j h1 h2).lt k hk).2
theorem I5.keep {Y:PlR} (h:I5 w yb Y) (hs:w.heap.size<=w'.heap.size) (hk:∀k,k < w.heap.size->aE yb Y k->w'.heap[k]?=w.heap[k]?):I5 w' yb Y:=by
 have hy:=hk yb h.me (L4a rfl);exact⟨L0a h.me hs,fun j=>(L0c (a:=⟨yb,j,none⟩) hy).trans (h.fz j),(L0b (a:=⟨yb,0,none⟩) hy).trans h.c0,A6 h.row0 fun b hb=>hk b (h.row0.lt b hb).2 (L4b (L4a hb)),h.ne0,fun j h1 h2=>(L0b (a:=⟨yb,j,none⟩) hy).trans (h.c j h1 h2),fun j h1 h2=>A6 (h.row j h1 h2) fun b hb=>hk b ((h.row j h1 h2).lt b hb).2 (L4b (L4b ⟨j,h1,h2,hb⟩)),h.ne⟩
def aS (yb:Nat) (Y:PlR):I0 :=
 ⟨aE yb Y,fun w=>I5 w yb Y,fun _ h=>h.lt,fun _ _ h hs hk=>h.keep hs fun k hl hb=>hk k hl (L4a hb)⟩
def PlR.upd (Y:PlR) (j:Nat) (av:Value) (nb:Nat):PlR:={ Y with v:=fun i=>if i=j then av else Y.v i,l:=fun i=>if i=j then Y.l i++[nb] else Y.l i }
theorem a9u {i:Nat} (hi:1<=i) (hi5:i<=5) (hj:1<=j) (hj5:j<=5) (h:i≠j):tyE i≠tyE j:=by
 have:i=1\/i=2\/i=3\/i=4\/i=5:=by omega
 have:j=1\/j=2\/j=3\/j=4\/j=5:=by omega
 rcases ‹i=1\/_› with rfl | rfl | rfl | rfl | rfl <;> rcases ‹j=1\/_› with rfl | rfl | rfl | rfl | rfl <;> first | exact absurd rfl h | decide
theorem a6z (j:Nat):tyE j≠48:=by
 unfold tyE;split
 ·decide
 ·split
  ·decide
  ·split
   ·decide
   ·split <;> decide
theorem I5.book {Y:PlR} {v av':Value} {nb:Nat} {vs:List (Value × Nat)} (h:I5 w yb Y) (h1:1<=j) (h5:j<=5) (hv:∀k,v.ownBlock=some k->¬aE yb Y k) (hW:yH w w' yb j (Y.v j) v av' nb vs) (hc:w'.cell? ⟨yb,j,none⟩=some av') (ho:w'.ownsRow 0 (tyE j) 1 av' ((Y.l j).length+1) ((Y.l j).map a8S++[.slice (zA nb) 4 4])) :
  I5 w' yb (Y.upd j av' nb)/\∀k,aE yb (Y.upd j av' nb) k->aE yb Y k\/w.heap.size<=k:=by
 have xb:(PlR.upd Y j av' nb).v j=av':=if_pos rfl;have xc:(PlR.upd Y j av' nb).l j=Y.l j++[nb]:=if_pos rfl;have xa:∀i,i≠j->(PlR.upd Y j av' nb).v i=Y.v i:=fun i hi=>if_neg hi
 have xd:∀i,i≠j->(PlR.upd Y j av' nb).l i=Y.l i:=fun i hi=>if_neg hi
 refine⟨⟨L0a h.me hW.size,fun i=>(hW.yf i).trans (h.fz i),(hW.yc 0 R5).trans h.c0,A6 h.row0 fun b hb=>hW.keep b (h.row0.lt b hb).2 (fun e=>h.ne0 (e▸hb)) (fun e=>bD (h.row j h1 h5) h.row0 (a6z j) b e hb) (fun e=>hv b e (L4b (L4a hb))),h.ne0,fun i hi hi5=>?_,fun i hi hi5=>?_,fun i hi hi5=>?_⟩,fun k hk=>?_⟩
 ·by_cases e:i=j
  ·subst e;rw [xb];exact hc
  ·rw [xa i e];exact (hW.yc i e).trans (h.c i hi hi5)
 ·by_cases e:i=j
  ·subst e
   rw[xb,xc,List.length_append,List.map_append];exact ho
  ·rw [xa i e,xd i e]
   refine A6 (h.row i hi hi5) fun b hb=>hW.keep b ((h.row i hi hi5).lt b hb).2 (fun e'=>h.ne i hi hi5 (by rw [hb,e'])) (fun e'=>bD (h.row j h1 h5) (h.row i hi hi5) (a9u h1 h5 hi hi5 fun q=>e q.symm) b e' hb) (fun e'=>hv b e' (L4b (L4b ⟨i,hi,hi5,hb⟩)))
 ·by_cases e:i=j
  ·subst e
   rw[xb];intro hb;rcases hW.avn yb hb with h' | h'
   ·exact h.ne i hi hi5 h'
   ·have:=h.me;omega
  ·rw [xa i e];exact h.ne i hi hi5
 ·rcases hk with hk | hk | ⟨i,hi,hi5,hk⟩
  ·exact L4a (L4a hk)
  ·exact L4a (L4b (L4a hk))
  ·by_cases e:i=j
   ·subst e
    rw[xb] at hk;rcases hW.avn k hk with h' | h'
    ·exact L4a (L4b (L4b ⟨i,hi,hi5,h'⟩))
    ·exact L4b h'
   ·rw [xa i e] at hk
    exact L4a (L4b (L4b ⟨i,hi,hi5,hk⟩))
theorem Sep.two (h:Sep P w) (i k m:Nat × Nat) (p q:I0) (hs:w.heap.size<=w'.heap.size) (hk:∀b,b < w.heap.size->¬(P i).B b->¬(P k).B b->w'.heap[b]?=w.heap[b]?) (hp:p.F w') (hq:q.F w') (hpB:∀b,p.B b->(P i).B b\/w.heap.size<=b) (hqB:∀b,q.B b->(P k).B b\/w.heap.size<=b) (hd:∀b,p.B b->¬q.B b) :
  Sep (((P.put i p).put k I0.none).put m q) w':=by
 have xa:=h.pos;have xb:∀j,(((P.put i p).put k I0.none).put m q) j=if j=m then q else if j=k then I0.none else if j=i then p else P j:=fun j=>rfl
 have xc:∀j,j≠m->j≠k->j≠i->∀b,(P j).B b->b < w.heap.size/\¬(P i).B b/\¬(P k).B b:=fun j _ h2 h3 b hb=>⟨(P j).lt w (h.F j) b hb,fun hc=>h3 (h.dis j i b hb hc),fun hc=>h2 (h.dis j k b hb hc)⟩
 have bp:∀j,j≠m->j≠k->j≠i->∀b,(P j).B b->¬p.B b/\¬q.B b:=fun j h1 h2 h3 b hb=>by
  obtain⟨o1,o2,o3⟩:=xc j h1 h2 h3 b hb;exact⟨fun hc=>by rcases hpB b hc with h' | h';exact o2 h';omega,fun hc=>by rcases hqB b hc with h' | h';exact o3 h';omega⟩
 refine⟨L0a xa hs,fun j=>?_,fun j l b hj hl=>?_,fun j hj=>?_⟩
 ·rw [xb]
  split
  ·exact hq
  ·split
   ·exact trivial
   ·split
    ·exact hp
    ·rename_i h1 h2 h3
     refine (P j).keep w w' (h.F j) hs fun b hb hb'=>?_
     rcases hb' with hb' | rfl
     ·obtain ⟨o1,o2,o3⟩:=xc j h1 h2 h3 b hb'
      exact hk b hb o2 o3
     ·exact hk 0 hb (h.z i) (h.z k)
 ·rw [xb] at hj hl
  split at hj
  ·split at hl
   ·rename_i e1 e2;rw [e1,e2]
   ·split at hl
    ·exact hl.elim
    ·split at hl
     ·exact (hd b hl hj).elim
     ·rename_i h1 h2 h3;exact ((bp l h1 h2 h3 b hl).2 hj).elim
  ·split at hj
   ·exact hj.elim
   ·split at hj
    ·split at hl
     ·exact (hd b hj hl).elim
     ·split at hl
      ·exact hl.elim
      ·split at hl
       ·rename_i e1 _ _ e2;rw [e1,e2]
       ·rename_i h1 h2 h3;exact ((bp l h1 h2 h3 b hl).1 hj).elim
    ·rename_i h1 h2 h3
     split at hl
     ·exact ((bp j h1 h2 h3 b hj).2 hl).elim
     ·split at hl
      ·exact hl.elim
      ·split at hl
       ·exact ((bp j h1 h2 h3 b hj).1 hl).elim
       ·exact h.dis j l b hj hl
 ·rw [xb] at hj
  split at hj
  ·rcases hqB 0 hj with h' | h'
   ·exact h.z k h'
   ·omega
  ·split at hj
   ·exact hj
   ·split at hj
    ·rcases hpB 0 hj with h' | h'
     ·exact h.z i h'
     ·omega
    ·exact h.z j hj
structure Stp (P:A5) (w:World) (P':A5) (w':World):Prop where
 os:w'.os=w.os
 tape:w'.tape=w.tape
 output:w'.output=w.output
 size:w.heap.size<=w'.heap.size
 out:∀b,b < w.heap.size->(∀i,¬(P i).B b)->w'.heap[b]?=w.heap[b]?
 grow:∀i b,(P' i).B b->(∃j,(P j).B b)\/w.heap.size<=b
theorem Stp.trans {P' P'':A5} {w'':World} (h:Stp P w P' w') (h':Stp P' w' P'' w''):Stp P w P'' w'':=by
 have hs:=h.size;refine⟨h'.os.trans h.os,h'.tape.trans h.tape,h'.output.trans h.output,L5a hs h'.size,fun b hb hn=>(h'.out b R5 fun i hi=>?_).trans (h.out b hb hn),fun i b hb=>?_⟩
 ·rcases h.grow i b hi with ⟨j,hj⟩ | h0
  ·exact hn j hj
  ·omega
 ·rcases h'.grow i b hb with ⟨j,hj⟩ | h0
  ·exact h.grow j b hj
  ·exact L4b R5
theorem Stp.below (h:L0d w w'):Stp P w P w':=⟨h.os,h.tape,h.output,h.size,fun b hb _=>h.block b hb,fun i _ hb=>L4a ⟨i,hb⟩⟩
theorem Stp.two (i k m:Nat × Nat) (p q:I0) (h1:w'.os=w.os) (h2:w'.tape=w.tape) (h3:w'.output=w.output) (hs:w.heap.size<=w'.heap.size) (hk:∀b,b < w.heap.size->¬(P i).B b->¬(P k).B b->w'.heap[b]?=w.heap[b]?) (hpB:∀b,p.B b->(P i).B b\/w.heap.size<=b) (hqB:∀b,q.B b->(P k).B b\/w.heap.size<=b):Stp P w (((P.put i p).put k I0.none).put m q) w':=by
 refine⟨h1,h2,h3,hs,fun b hb hn=>hk b hb (hn i) (hn k),fun j b hb=>?_⟩;have xa:(((P.put i p).put k I0.none).put m q) j=if j=m then q else if j=k then I0.none else if j=i then p else P j:=rfl
 rw[xa] at hb;split at hb
 ·rcases hqB b hb with h | h
  ·exact L4a ⟨k,h⟩
  ·exact L4b h
 ·split at hb
  ·exact hb.elim
  ·split at hb
   ·rcases hpB b hb with h | h
    ·exact L4a ⟨i,h⟩
    ·exact L4b h
   ·exact L4a ⟨j,hb⟩
def a5X (e sz:Nat) (v:Value) (n:Nat):I0 :=
 ⟨fun k=>v.ownBlock=some k,fun w=>Has w 0 e sz v n,fun _ h k hk=>by obtain ⟨xs,hx⟩:=h;exact (hx.lt k hk).2,fun _ _ h _ hk=>h.block fun b hb=>hk b (by obtain ⟨xs,hx⟩:=h;exact (hx.lt b hb).2) (L4a hb)⟩
end
section
variable {e n sz te:Nat} {v:Value} {w:World}
theorem mD {B nb:Nat} {cs:Array Value} {xs:List Value} (h:w.ownsRow B e sz v n xs) (hb:w.heap[nb]?=some (.cells cs te (0,0))) (hne:e≠te):v.ownBlock≠some nb:=fun hv=>by
 rcases h.2 with ⟨h0,_⟩ | ⟨g,xb,xc,xa,_,hg,_⟩
 ·rw [h0] at hv;cases hv
 ·rw [xa] at hv
  obtain rfl:g=nb:=by simpa [Value.ownBlock] using hv
  rw[hb] at hg;have:=L5b hg;simp at this;exact hne this.2.symm
theorem Sep.book {P:A5} {w':World} {yb j:Nat} {Y:PlR} {k:Nat × Nat} {zv:Nat->Value} (h:Sep P w) (hp:P (0,0)=aS yb Y) (hk:P k=a5X e sz v n) (hk0:k≠(0,0)) (h1:1<=j) (h5:j<=5) (het:e≠tyE j) (htt:te≠tyE j) (hb:uQ e sz te (tyE j) yb j (Y.l j).length zv (Y.v j) v ((Y.l j).map a8S) w w') (m:Nat × Nat) :
  ∃nb vs av',vs.length=4/\Sep (((P.put (0,0) (aS yb (Y.upd j av' nb))).put k I0.none).put m (iU e sz te zv nb vs)) w'/\Stp P w (((P.put (0,0) (aS yb (Y.upd j av' nb))).put k I0.none).put m (iU e sz te zv nb vs)) w':=by
 obtain⟨nb,vs,av',hl,hE,hc,ho,hW⟩:=hb;have xd:I5 w yb Y:=by have:=h.F (0,0);rw [hp] at this;exact this
 have xb:∀b,(P (0,0)).B b↔aE yb Y b:=fun b=>by rw [hp];exact Iff.rfl
 have xc:∀b,(P k).B b↔v.ownBlock=some b:=fun b=>by rw [hk];exact Iff.rfl
 have hv:∀b,v.ownBlock=some b->¬aE yb Y b:=fun b hb hq=>hk0 (h.dis k (0,0) b ((xc b).2 hb) ((xb b).2 hq))
 obtain⟨xe,xf⟩:=xd.book h1 h5 hv hW hc ho;have k1:∀b,b < w.heap.size->¬(P (0,0)).B b->¬(P k).B b->w'.heap[b]?=w.heap[b]?:=fun b hb h0 hk'=>by
  rw[xb] at h0;rw[xc] at hk';exact hW.keep b hb (fun e=>h0 (L4a e)) (fun e=>h0 (L4b (L4b ⟨j,h1,h5,e⟩))) hk'
 have k2:∀b,(aS yb (Y.upd j av' nb)).B b->(P (0,0)).B b\/w.heap.size<=b:=fun b hb=>by rw [xb];exact xf b hb
 have k3:∀b,(iU e sz te zv nb vs).B b->(P k).B b\/w.heap.size<=b:=fun b hb=>by
  rw[xc];rcases hb with hb | ⟨p,hp,hb⟩
  ·exact L4b (by rw [hb];exact hW.nbn)
  ·exact hW.vsn p hp b hb
 refine⟨nb,vs,av',hl,h.two (0,0) k m _ _ hW.size k1 xe hE k2 k3 (fun b hb hq=>?_),Stp.two (0,0) k m _ _ hW.os hW.tape hW.output hW.size k1 k2 k3⟩
 ·-- the book's own blocks are none of the entry's
  have xa:aE yb Y b->False:=fun hpb=>by
   have xg:=xd.lt b hpb;rcases hq with hq | ⟨p,hp',hq⟩
   ·have:=hW.nbn;omega
   ·rcases hW.vsn p hp' b hq with h' | h'
    ·exact hv b h' hpb
    ·omega
  rcases hb with hb | hb | ⟨i,hi,hi5,hb⟩
  ·exact xa (L4a hb)
  ·exact xa (L4b (L4a hb))
  ·by_cases e':i=j
   ·subst e'
    have ev:(Y.upd i av' nb).v i=av':=if_pos rfl;rw[ev] at hb;rcases hq with hq | ⟨p,hp',hq⟩
    ·subst hq
     exact mD ho hE.blk (fun e=>htt e.symm) hb
    ·obtain ⟨ys,hy⟩:=hE.has p hp'
     exact bD hy ho het b hq hb
   ·have ev:(Y.upd j av' nb).v i=Y.v i:=if_neg e'
    rw[ev] at hb;exact xa (L4b (L4b ⟨i,hi,hi5,hb⟩))
end
section
variable {P:A5} {j:Nat} {k:Nat × Nat} {p p0:I0}
structure a8q (j i nb:Nat) (p:I0):Prop where
 b:j=2->∃vs:List (Value × Nat),vs.length=4/\p=iU 5 1 26 (fun _=>zC ((i % 251:Nat):Int)) nb vs
def jN (P:A5) (Y:PlR):Prop:=(Y.l 1=[]/\Y.l 3=[]/\Y.l 4=[]/\Y.l 5=[])/\∀j i nb,1<=j->j<=5->(Y.l j)[i]?=some nb->a8q j i nb (P (j+2,i))
def a4p (P P':A5) (K:Nat × Nat->Prop):Prop:=∀q,(q.1=1\/q.1=2\/8<=q.1)->¬K q->P' q=P q
theorem jN.upd {Y:PlR} {nb:Nat} {av:Value} (h:jN P Y) (h1:1<=j) (h5:j<=5) (hj2:j=2) (hk:8<=k.1) (hE:a8q j (Y.l j).length nb p):jN (((P.put (0,0) p0).put k I0.none).put (j+2,(Y.l j).length) p) (Y.upd j av nb):=by
 refine⟨by subst hj2;exact h.1,fun i q b hi hi5 hq=>?_⟩;by_cases e:i=j
 ·subst e
  have el:(Y.upd i av nb).l i=Y.l i++[nb]:=if_pos rfl;rw[el] at hq;by_cases e2:q=(Y.l i).length
  ·subst e2
   rw[List.getElem?_append_right (L1c _)] at hq;simp at hq;subst hq;rw[A5.put_same];exact hE
  ·have xa:q < (Y.l i).length:=by
    have:=(L1a.1 hq).1;simp at this;omega
   rw[List.getElem?_append_left xa] at hq;rw[A5.put_ne _ (by intro e;simp only [Prod.mk.injEq] at e;omega),A5.put_ne _ (by intro e;rw [<- e] at hk;simp only at hk;omega),A5.put_ne _ (by intro e;simp only [Prod.mk.injEq] at e;omega)];exact h.2 i q b hi hi5 hq
 ·have el:(Y.upd j av nb).l i=Y.l i:=if_neg e
  rw[el] at hq;rw[A5.put_ne _ (by intro e;simp only [Prod.mk.injEq] at e;omega),A5.put_ne _ (by intro e;rw [<- e] at hk;simp only at hk;omega),A5.put_ne _ (by intro e;simp only [Prod.mk.injEq] at e;omega)];exact h.2 i q b hi hi5 hq
theorem a5o {n:Nat} (h1:1<=j) (h5:j<=5):a4p P (((P.put (0,0) p0).put k I0.none).put (j+2,n) p) (fun q=>q=k):=fun q hq hn=>by
 rw[A5.put_ne _ (by intro e;rw [e] at hq;simp only at hq;omega),A5.put_ne _ hn,A5.put_ne _ (by intro e;rw [e] at hq;simp only at hq;omega)]
structure a8u (Y Y':PlR) (j:Nat) (n:Nat):Prop where
 ps:Y'.ps=Y.ps
 psv:Y'.psv=Y.psv
 l:∀i,i≠j->Y'.l i=Y.l i
 lj:(Y'.l j).length=(Y.l j).length+n
theorem a4h (Y:PlR) (j:Nat) (av:Value) (nb:Nat):a8u Y (Y.upd j av nb) j 1 :=
 ⟨rfl,rfl,fun i hi=>if_neg hi,by have e:(Y.upd j av nb).l j=Y.l j++[nb]:=if_pos rfl;rw [e,List.length_append];rfl⟩
theorem a9M (P:A5) {j n:Nat} {p0 p:I0} {k:Nat × Nat} (hk:8<=k.1) (h5:j<=5):(((P.put (0,0) p0).put k I0.none).put (j+2,n) p) k=I0.none:=by
 rw[A5.put_ne _ (by intro e;rw [e] at hk;simp only at hk;omega),A5.put_same]
theorem a9L (P:A5) {j n:Nat} {p0 p:I0} {k:Nat × Nat} (hk:8<=k.1):(((P.put (0,0) p0).put k I0.none).put (j+2,n) p) (0,0)=p0:=by
 rw[A5.put_ne _ (by intro e;simp only [Prod.mk.injEq] at e;omega),A5.put_ne _ (by intro e;rw [<- e] at hk;simp only at hk;omega),A5.put_same]
def a9C (P:A5) (yb:Nat) (Y:PlR) (K:Nat × Nat->Prop) (j n:Nat) (w:World) (e:Ending) (w':World):Prop :=
 e=.returned (.tuple #[])/\∃P' Y',Sep P' w'/\P' (0,0)=aS yb Y'/\jN P' Y'/\a4p P P' K/\(∀q,K q->P' q=I0.none)/\a8u Y Y' j n/\Stp P w P' w'
end
end Go.Proofs.YtbkmgoffiigdbaaGreatDoor
namespace Go.Proofs.YtbkmgoffiigdbaaGreatDoor
set_option maxHeartbeats 2000000
set_option maxRecDepth 100000
open Go.RowKit Go.Sort
end Go.Proofs.YtbkmgoffiigdbaaGreatDoor
namespace Go.Proofs.YtbkmgoffiigdbaaGreatDoor
open Go.RowKit Go.Sort Go.Proofs.Tryz
set_option maxHeartbeats 2000000
set_option maxRecDepth 100000
section
variable {e nb sz te:Nat} {vs:List (Value × Nat)} {w:World} {zv:Nat->Value}
theorem I5.list {yb j:Nat} {Y:PlR} (h:I5 w yb Y) (h1:1<=j) (h5:j<=5):∃a c,w.cell? ⟨yb,j,none⟩=some (.slice a (Y.l j).length c)/\∀i nb,(Y.l j)[i]?=some nb->∃ab,a=some ⟨ab,0,none⟩/\ab < w.heap.size/\w.cell? ⟨ab,i,none⟩=some (.slice (zA nb) 4 4):=by
 have hr:=h.row j h1 h5;obtain⟨a,c,hv,_⟩:=C2 hr;have hc:=h.c j h1 h5;rw[hv] at hc;refine⟨a,c,hc,fun i nb hi=>?_⟩;have xd:=(L1a.1 hi).1;rcases hr.2 with ⟨_,h0⟩ | ⟨g,xc,xb,xa,_⟩
 ·omega
 ·rw [hv] at xa
  cases xa;rw[hv] at hr;refine⟨g,rfl,(hr.lt g rfl).2,?_⟩;rw[hr.cellAt i R5,List.getElem?_map,hi];rfl
theorem aK.get (h:aK w e sz te zv nb vs) {k:Nat} {p:Value × Nat} (hp:vs[k]?=some p):w.cell? ⟨nb,k,none⟩=some p.1/\nb < w.heap.size/\∃a c,p.1=.slice a p.2 c/\(0 < p.2->∃b,a=some ⟨b,0,none⟩/\b < w.heap.size/\∀off,off < p.2*sz->w.cell? ⟨b,off,none⟩=some (zv off)):=by
 have xa:=L2a hp;refine⟨?_,(L2b.1 h.blk).1,?_⟩
 ·simp only [World.cell?,h.blk]
  simp[List.getElem?_map,hp]
 ·obtain ⟨a,c,hv,_,hb⟩:=(h.has p xa).form
  refine⟨a,c,hv,fun h0=>?_⟩;obtain⟨b,ha,xb,xc,_⟩:=hb h0;exact⟨b,ha,xc,fun off ho=>h.zed p xa b xb off ho⟩
theorem aK.small (h:aK w e sz te zv nb vs) {k:Nat} {p:Value × Nat} (hp:vs[k]?=some p):p.2<=9223372036854775807:=by
 obtain⟨xs,hx⟩:=h.has p (L2a hp);rcases hx.2 with ⟨_,h0⟩ | ⟨g,xa,xb,_,_,_,h3,h4,_⟩
 ·omega
 ·unfold maxLen at h4
  omega
end
section
variable {Y:PlR} {w:World} {yb:Nat}
theorem I5.nil0 {j:Nat} (h:I5 w yb Y) (h1:1<=j) (h5:j<=5) (h0:Y.l j=[]):∃a c,w.cell? ⟨yb,j,none⟩=some (.slice a 0 c):=by
 obtain⟨a,c,q,_⟩:=h.list h1 h5;rw[h0] at q;exact⟨a,c,q⟩
theorem mZ (h:I5 w yb Y) (h1:Y.l 1=[]) (h3:Y.l 3=[]) :
  Calls prog 38 #[.pointer (some ⟨yb,1,none⟩)] w fun e w'=>e=.returned (.bool true)/\w'=w:=by
 obtain⟨a1,b1,c1⟩:=h.nil0 (j:=1) R4 R4 h1;obtain⟨a3,b3,c3⟩:=h.nil0 (j:=3) R4 R4 h3;have xa:=h.me;clear h h1 h3;go_enter func38,ntmps38;go_wp2_with fail;go_loopw [3] (fun vi wr=>vi=J 0/\wr=w) (fun _ _=>0)
 case atStart=>exact ⟨rfl,rfl⟩
 case round =>
  obtain⟨rfl,hw⟩:=hrel;rw[hw];clear hw;go_wp2_with fail;go_loopw [6] (fun vi wr=>vi=J 0/\wr=w) (fun _ _=>0)
  case atStart=>exact ⟨rfl,rfl⟩
  case round =>
   obtain⟨rfl,hw⟩:=hrel;rw[hw];clear hw;go_wp2_with fail;go_ret;exact⟨rfl,rfl⟩
end
end Go.Proofs.YtbkmgoffiigdbaaGreatDoor
