import Derived.Test.YtbkmgoffiigdbaaGreatDoorYCi
namespace Go.Proofs.YtbkmgoffiigdbaaGreatDoor
open Go.RowKit Go.Sort Go.Proofs.Tryz
set_option maxHeartbeats 4000000
set_option maxRecDepth 100000
section
variable {W:World} {l:List FrA}
theorem jR {sl:List Int} {v:Val} (h:VS sl v):J1 sl v=ren (sig sl) v:=by
 unfold J1 ren;by_cases h2:v.1=2
 ·rw [if_pos h2,if_pos h2]
  obtain⟨x,hx,h0⟩:=(h h2).2;rw[bE hx,List.getD_eq_getElem?_getD,hx];show ((2,x):Val)=(2,((x.toNat:Nat):Int));rw[Int.toNat_of_nonneg h0]
 ·rw [if_neg h2,if_neg h2]
theorem FrV.later {U:World} {a:Option Addr} (h:FrV W a l) (hB:L0d W U):FrV U a l:=fun h0=>by
 obtain⟨b,e,hb,hc⟩:=h h0;refine⟨b,e,L0a hb hB.size,fun i f hf=>?_⟩;obtain⟨la,lc,sa,sc,h1,h2,h3,h4,h5,h6⟩:=hc i f hf;exact⟨la,lc,sa,sc,keep hB hb h1,keep hB hb h2,keep hB hb h3,keep hB hb h4,h5.here hB,h6.here hB⟩
theorem zB {B n:Nat} {v:Value} {L:List FrR} (h:W.ownsRow B 86 4 v n (L.flatMap FrR.cells)) (hl:l.length=n) (hk:∀(k:Nat) (f:FrA),l[k]?=some f->∃q:FrR,L[k]?=some q/\q.fn=f.fn/\q.pc=f.pc/\W.ownsRow B 92 2 q.lv f.loc.length (A5 f.loc)/\W.ownsRow B 92 2 q.sv f.stk.length (A5 f.stk)):∃a c,v=.slice a n c/\FrV W a l:=by
 rcases id h.2 with ⟨rfl,h0⟩ | ⟨g,xb,xg,rfl,_,hg,h3,h4,h5,h6⟩
 ·exact ⟨none,0,by rw [h0],fun hp=>by omega⟩
 ·refine ⟨_,xb,rfl,fun _=>⟨g,rfl,(L2b.1 hg).1,fun i f hf=>?_⟩⟩
  obtain⟨q,hq,e1,e2,h1,h2⟩:=hk i f hf;obtain⟨la,lc,xe,_,xa⟩:=T4 h1;obtain⟨sa,sc,xc,_,xd⟩:=T4 h2;have xf:=(L1a.1 hf).1;have hj:∀j u,j < 4->q.cells[j]?=some u->W.cell? ⟨g,i*4+j,none⟩=some u:=fun j u hj hu=>by
   rw[h.cellAt _ R4,E0 FrR.cells_len hq hj];exact hu
  refine⟨la,lc,sa,sc,?_,?_,?_,?_,xa,xd⟩
  ·have:=hj 0 _ R3 rfl;rw [e1] at this;exact this
  ·have:=hj 1 _ R3 rfl;rw [e2] at this;exact this
  ·have:=hj 2 _ R3 rfl;rw [xe] at this;exact this
  ·have:=hj 3 _ R3 rfl;rw [xc] at this;exact this
def nJ (fl:List FrR) (m:Nat):D7:=match fl[m / 2]? with
 | some f=>if m % 2=0 then cU 92 2 f.lv f.loc.length else cU 92 2 f.sv f.stk.length
 | none=>D7.none
def frQ (v:Value) (fl:List FrR):A3:=fun i=>if i.1=9 then nJ fl i.2 else if i=(8,0) then mP 86 4 v fl.length (fl.flatMap FrR.cells) else D7.none
theorem vO {fl:List FrR} {m b:Nat} (h:(nJ fl m).B b):∃f,fl[m / 2]?=some f/\(f.val (decide (m % 2=1))).ownBlock=some b:=by
 unfold nJ at h;split at h
 ·rename_i f hf
  refine⟨f,hf,?_⟩;split at h
  ·rename_i e
   rw[show decide (m % 2=1)=false from decide_eq_false R4];exact h
  ·rename_i e
   rw[show decide (m % 2=1)=true from decide_eq_true R4];exact h
 ·exact h.elim
theorem tL {w0:L7} {w:World} {P:A3} {yb N M i xb cb:Nat} {Y:PlR} (h:Lw w0 P w yb Y N M) (hi:Y.ps[i]?=some (xb,cb)) (hN:N<=10000000000) :
  ∃l:List FrA,(l.length<=12/\∀f,f∈l->f.loc.length<=8/\f.stk.length<=18) /\
   (∀V,L0d w V->Calls Tryz.prog 27 #[.pointer (some ⟨cb,0,none⟩)] V fun e w2=>∃ra rc,e=.returned (.slice ra l.length rc)/\FrV w2 ra l/\L0d V w2) /\
   ∀U,L0d w U->Calls Tryz.prog 25 #[.pointer (some ⟨xb,0,none⟩)] U fun e w1=>∃va vc,∃fl:List FrR,e=.returned (.slice va l.length vc)/\fl.length=l.length/\L0d U w1/\FrV w1 va l/\(∀f,f∈fl->(∃a c,f.lv=.slice a f.loc.length c)/\(∃a c,f.sv=.slice a f.stk.length c)/\f.loc.length<=1000/\f.stk.length<=1000) /\
    ∃P1,Lw w0 P1 w1 yb Y N M/\P1 (8,0)=mP 86 4 (.slice va fl.length vc) fl.length (fl.flatMap FrR.cells)/\gM P1 fl 0:=by
 obtain⟨ox,gx,RX,oc,gc,RC,t,h1,h2,h3,h4,h5,h6,h7,h8⟩:=(h.pair i (xb,cb) hi).ex;have e1:RX.frs.map FrR.abs=t.frs:=by rw [<- h3.abs];rfl
 have xm:∀f,f∈t.frs->f.loc.length<=8/\f.stk.length<=18:=fun f hf=>⟨(h4.frame h5 hf).1,(h4.frame h5 hf).2.1⟩
 have xj:RX.frs.length=t.frs.length:=by rw [<- e1,List.length_map]
 have hd:=h4.depth;refine⟨t.frs,⟨h4.depth,xm⟩,fun V hV=>?_,fun U hU=>?_⟩
 ·have xs:=h.below hV
  have hR:A8 V oc cb gc RC:=by have:=xs.sep.F (2,i);rw [h2] at this;exact this
  refine (a1b hR (h7.bd (h6.pgOk h5) R4) h7.rin).mono ?_;rintro e w2 ⟨vl,rfl,L,hL,xa,hk,hb⟩;have e2:t.frs=(RC.frs.map FrR.abs).map (G4 (sig (RC.ths.map ThR.slot))):=h7.v.frs;obtain⟨ra,rc,rfl,hv⟩:=zB (l:=t.frs) xa (by rw [e2,List.length_map,List.length_map]) (fun k f hf=>by
   rw[e2,List.getElem?_map,List.getElem?_map] at hf
   cases ep:RC.frs[k]? with
   | none=>rw [ep] at hf;cases hf
   | some p =>
    rw[ep] at hf;obtain rfl:=L5b hf;obtain⟨q,hq,q1,q2,q3,q4⟩:=hk k p (L1a.1 ep).1 ep;have xk:VSs (RC.ths.map ThR.slot) (p.loc++p.stk):=h7.v.frame (f:=p.abs) (List.mem_map.2 ⟨p,L2a ep,rfl⟩);have m1:p.loc.map (J1 (RC.ths.map ThR.slot))=p.loc.map (ren (sig (RC.ths.map ThR.slot))):=List.map_congr_left fun v hv=>jR (xk v (List.mem_append_left _ hv))
    have m2:p.stk.map (J1 (RC.ths.map ThR.slot))=p.stk.map (ren (sig (RC.ths.map ThR.slot))):=List.map_congr_left fun v hv=>jR (xk v (List.mem_append_right _ hv))
    rw[m1] at q3;rw[m2] at q4;refine⟨q,hq,q1,q2,?_,?_⟩
    ·have:(p.loc.map (ren (sig (RC.ths.map ThR.slot)))).length=p.loc.length:=List.length_map _
     show w2.ownsRow _ 92 2 q.lv (p.loc.map (ren (sig (RC.ths.map ThR.slot)))).length _;rw[this];exact q3
    ·have:(p.stk.map (ren (sig (RC.ths.map ThR.slot)))).length=p.stk.length:=List.length_map _
     show w2.ownsRow _ 92 2 q.sv (p.stk.map (ren (sig (RC.ths.map ThR.slot)))).length _;rw[this];exact q4)
  have xd:RC.frs.length=t.frs.length:=by rw [e2,List.length_map,List.length_map]
  rw[xd];exact⟨ra,rc,rfl,hv,hb⟩
 ·have xl:=h.below hU
  have hM:A4 U ox xb gx RX:=by have:=xl.sep.F (1,i);rw [h1] at this;exact this
  have xn:∀f,f∈RX.frs->f.loc.length<=8/\f.stk.length<=18:=fun f hf=>xm f.abs (by rw [<- e1];exact List.mem_map.2 ⟨f,hf,rfl⟩)
  refine (uI hM R4 (fun f hf=>by have:=xn f hf;omega)).mono ?_;rintro e w1 ⟨v,fl,rfl,xa,xo,hk,xe,hb⟩;obtain⟨va,vc,rfl,hv⟩:=zB (l:=t.frs) xa xj.symm (fun k f hf=>by
   rw[<- e1,List.getElem?_map] at hf
   cases ep:RX.frs[k]? with
   | none=>rw [ep] at hf;cases hf
   | some p =>
    rw[ep] at hf;obtain rfl:=L5b hf;obtain⟨lv,sv,q1,q2,q3,_⟩:=hk k p ep;exact⟨_,q1,rfl,rfl,q2,q3⟩)
  have xc:∀(k:Nat) (f:FrR),fl[k]?=some f->k < RX.frs.length/\f.loc.length<=8/\f.stk.length<=18/\w1.ownsRow U.heap.size 92 2 f.lv f.loc.length (A5 f.loc)/\w1.ownsRow U.heap.size 92 2 f.sv f.stk.length (A5 f.stk):=fun k f hf=>by
   have xi:k < RX.frs.length:=by rw [<- xo];exact (L1a.1 hf).1
   obtain⟨lv,sv,q1,q2,q3,_⟩:=hk k RX.frs[k] (L1b xi);rw[hf] at q1;obtain rfl:=L5b q1;have:=xn _ (List.getElem_mem xi);exact⟨xi,this.1,this.2,q2,q3⟩
  have xf:∀m b,(nJ fl m).B b->U.heap.size<=b/\∀b',(Value.slice va RX.frs.length vc).ownBlock=some b'->b'≠b:=fun m b hB=>by
   obtain⟨f,hf,ho⟩:=vO hB;obtain⟨_,_,_,o1,o2⟩:=xc _ f hf
   cases ed:decide (m % 2=1) with
   | true=>rw [ed] at ho;exact ⟨(o2.lt b ho).1,fun b' hb' e=>G8 xa o2 R3 b' hb' (by rw [e];exact ho)⟩
   | false=>rw [ed] at ho;exact ⟨(o1.lt b ho).1,fun b' hb' e=>G8 xa o1 R3 b' hb' (by rw [e];exact ho)⟩
  have xd:fl.length=t.frs.length:=xo.trans xj;rw[xj] at xa xf ⊢;rw[<- xd] at xa xf;refine⟨va,vc,fl,rfl,xd,hb,hv,fun f hf=>?_,loose P (frQ (.slice va fl.length vc) fl),?_,?_,?_⟩
  ·obtain ⟨k,xq⟩:=List.mem_iff_getElem?.1 hf
   obtain⟨_,a1,a2,o1,o2⟩:=xc k f xq;obtain⟨x,y,hx,_⟩:=T4 o1;obtain⟨x',y',xp,_⟩:=T4 o2;exact⟨⟨x,y,hx⟩,⟨x',y',xp⟩,by omega,by omega⟩
  ·have sp:∀i:Nat × Nat,(i.1=9/\frQ (.slice va fl.length vc) fl i=nJ fl i.2)\/(i=(8,0)/\frQ (.slice va fl.length vc) fl i=mP 86 4 (.slice va fl.length vc) fl.length (fl.flatMap FrR.cells))\/frQ (.slice va fl.length vc) fl i=D7.none:=fun i=>by
    unfold frQ;by_cases e:i.1=9
    ·exact L4a ⟨e,if_pos e⟩
    ·by_cases e':i=(8,0)
     ·exact L4b (L4a ⟨e',by rw [if_neg e,if_pos e']⟩)
     ·exact L4b (L4b (by rw [if_neg e,if_neg e']))
   refine xl.loose hb (fun i _=>?_) (fun i b _ hB=>?_) (fun i j b _ _ hB hB'=>?_)
   ·rcases sp i with ⟨_,e⟩ | ⟨_,e⟩ | e
    ·rw [e]
     unfold nJ;split
     ·rename_i f hf
      obtain⟨_,_,_,o1,o2⟩:=xc _ f hf;split
      ·exact ⟨_,D6 o1 (L4c _)⟩
      ·exact ⟨_,D6 o2 (L4c _)⟩
     ·trivial
    ·rw [e];exact D6 xa (L4c _)
    ·rw [e];trivial
   ·rcases sp i with ⟨_,e⟩ | ⟨_,e⟩ | e
    ·rw [e] at hB;exact (xf _ b hB).1
    ·rw [e] at hB;exact (xa.lt b hB).1
    ·rw [e] at hB;exact hB.elim
   ·rcases sp i with ⟨ei,e⟩ | ⟨ei,e⟩ | e
    ·rw [e] at hB
     rcases sp j with ⟨ej,e'⟩ | ⟨ej,e'⟩ | e'
     ·rw [e'] at hB'
      obtain⟨f,hf,ho⟩:=vO hB;obtain⟨f',xg,xh⟩:=vO hB';have l1:=(xc _ f hf).1;have l2:=(xc _ f' xg).1;have xr:i.2=j.2:=by
       rcases Nat.lt_trichotomy (i.2 / 2) (j.2 / 2) with c | c | c
       ·exact (xe _ _ _ _ f f' b (L4a c) l2 hf xg ho xh).elim
       ·by_cases c2:i.2 % 2=j.2 % 2
        ·omega
        ·exact (xe _ _ _ _ f f' b (L4b ⟨c,fun e=>c2 (by
          have xt:∀x:Nat,(x % 2=1)=(decide (x % 2=1)=true):=fun x=>by rw [decide_eq_true_eq]
          have:=congrArg (·=true) e;simp only[decide_eq_true_eq] at this;have h1:i.2 % 2=1↔j.2 % 2=1:=by rw [this]
          omega)⟩) l2 hf xg ho xh).elim
       ·exact (xe _ _ _ _ f' f b (L4a c) l1 xg hf xh ho).elim
      exact Prod.ext (ei.trans ej.symm) xr
     ·rw [e'] at hB';exact ((xf _ b hB).2 b hB' rfl).elim
     ·rw [e'] at hB';exact hB'.elim
    ·rw [e] at hB
     rcases sp j with ⟨ej,e'⟩ | ⟨ej,e'⟩ | e'
     ·rw [e'] at hB';exact ((xf _ b hB').2 b hB rfl).elim
     ·rw [ei,ej]
     ·rw [e'] at hB';exact hB'.elim
    ·rw [e] at hB;exact hB.elim
  ·rw [O0 P _ R3];rfl
  ·intro q f _ hf
   rw[O0 P _ (show 8<=9 by decide),O0 P _ (show 8<=9 by decide)];constructor
   ·show nJ fl (2*q)=_
    unfold nJ;rw[show 2*q / 2=q by omega,hf];simp only;rw[if_pos R4]
   ·show nJ fl (2*q+1)=_
    unfold nJ;rw[show (2*q+1) / 2=q by omega,hf];simp only;rw[if_neg R4]
end
section
variable {P:A3} {Y:PlR} {w:World} {yb:Nat}
theorem a6Q:(prog.info? 90).map (fun i=>(i.zero,i.size,i.bytes))=some (some (.agg #[.int .u8 0,.slice none 0 0]),2,32):=by kernel_rfl
theorem a6a:(prog.info? 88).map (fun i=>(i.zero,i.size,i.bytes))=some (some (.slice none 0 0),1,24):=by kernel_rfl
theorem Sep.bookO {w3 w':World} {n fb:Nat} {k:Nat × Nat} {v:Value} (h:Sep P w) (hp:P (0,0)=H9 yb Y) (hk:P k=cU 90 2 v n) (hk0:k≠(0,0)) (hB:L0d w w3) (hfb:w3.heap[fb]?=some (.cells #[.int .u8 9,.int .i64 (-7070 - ((Y.l 5).length:Int))] 92 (0,0))) (hfw:w.heap.size<=fb) (hb:aU 90 2 74 88 yb 5 (Y.l 5).length (zob fb) (Y.v 5) v ((Y.l 5).map nH) w3 w') (m:Nat × Nat) :
  ∃nb vs av',vs.length=4/\Sep (((P.put (0,0) (H9 yb (Y.upd 5 av' nb))).put k D7.none).put m (obP (Y.l 5).length nb fb vs)) w'/\Stp P w (((P.put (0,0) (H9 yb (Y.upd 5 av' nb))).put k D7.none).put m (obP (Y.l 5).length nb fb vs)) w':=by
 obtain⟨nb,vs,av',hl,hE,hc,ho,hW⟩:=hb;have xb:H7 w yb Y:=by have:=h.F (0,0);rw [hp] at this;exact this
 have xl:H7 w3 yb Y:=xb.keep hB.size fun b hb _=>hB.block b hb
 have xc:∀b,(P (0,0)).B b↔R7 yb Y b:=fun b=>by rw [hp];exact Iff.rfl
 have xe:∀b,(P k).B b↔v.ownBlock=some b:=fun b=>by rw [hk];exact Iff.rfl
 have hv:∀b,v.ownBlock=some b->¬R7 yb Y b:=fun b hb hq=>hk0 (h.dis k (0,0) b ((xe b).2 hb) ((xc b).2 hq))
 have xd:Has w 0 90 2 v n:=by have:=h.F k;rw [hk] at this;exact this
 have xi:∀b,v.ownBlock=some b->b < w.heap.size:=fun b hb=>by obtain ⟨xs,hx⟩:=xd;exact (hx.lt b hb).2
 obtain⟨xk,xf⟩:=xl.book R3 R3 hv hW hc ho;have xg:=hB.size;have xj:=(L2b.1 hfb).1;have xh:w'.heap[fb]?=w3.heap[fb]?:=hW.keep fb xj (fun e=>by have:=xb.me;omega) (fun e=>by have:=xb.lt fb (L4b (L4b ⟨5,by decide,by decide,e⟩));omega) (fun e=>by have:=xi fb e;omega);have k1:∀b,b < w.heap.size->¬(P (0,0)).B b->¬(P k).B b->w'.heap[b]?=w.heap[b]?:=fun b hb h0 hk'=>by
  rw[xc] at h0;rw[xe] at hk';exact (hW.keep b R4 (fun e=>h0 (L4a e)) (fun e=>h0 (L4b (L4b ⟨5,by decide,by decide,e⟩))) hk').trans (hB.block b hb)
 have k2:∀b,(H9 yb (Y.upd 5 av' nb)).B b->(P (0,0)).B b\/w.heap.size<=b:=fun b hb=>by
  rw[xc];rcases xf b hb with h' | h'
  ·exact L4a h'
  ·exact L4b R4
 have k3:∀b,(obP (Y.l 5).length nb fb vs).B b->(P k).B b\/w.heap.size<=b:=fun b hb=>by
  rw[xe];rcases hb with (hb | ⟨p,hp',hb⟩) | hb
  ·have:=hW.nbn;exact L4b R4
  ·rcases hW.vsn p hp' b hb with h' | h'
   ·exact L4a h'
   ·exact L4b R4
  ·exact L4b R4
 refine⟨nb,vs,av',hl,h.two (0,0) k m _ _ (L5a xg hW.size) k1 xk ⟨hE,xh.trans hfb⟩ k2 k3 (fun b hb hq=>?_),Stp.two (0,0) k m _ _ (hW.os.trans hB.os) (hW.tape.trans hB.tape) (hW.output.trans hB.output) (L5a xg hW.size) k1 k2 k3⟩
 ·have xa:R7 yb Y b->False:=fun hpb=>by
   have xm:=xb.lt b hpb;rcases hq with (hq | ⟨p,hp',hq⟩) | hq
   ·have:=hW.nbn;omega
   ·rcases hW.vsn p hp' b hq with h' | h'
    ·exact hv b h' hpb
    ·omega
   ·omega
  rcases xf b hb with h' | h'
  ·exact xa h'
  ·rcases hb with hb | hb | ⟨i,hi,hi5,hb⟩
   ·exact xa (L4a hb)
   ·exact xa (L4b (L4a hb))
   ·by_cases e':i=5
    ·subst e'
     have ev:(Y.upd 5 av' nb).v 5=av':=by simp [PlR.upd]
     rw[ev] at hb;rcases hq with (hq | ⟨p,hp',hq⟩) | hq
     ·subst hq
      exact jU ho hE.blk R3 hb
     ·obtain ⟨ys,hy⟩:=hE.has p hp'
      exact G8 hy ho R3 b hq hb
     ·omega
    ·have ev:(Y.upd 5 av' nb).v i=Y.v i:=if_neg e'
     rw[ev] at hb;exact xa (L4b (L4b ⟨i,hi,hi5,hb⟩))
def gR (P:A3) (ol:List ObR) (i:Nat):Prop:=∀q o,i<=q->ol[q]?=some o->P (9,q)=cU 92 2 o.fv o.fl.length
theorem tH {va:Option Addr} {vc:Nat} {ol:List ObR} (h:Sep P w) (hp:P (0,0)=H9 yb Y) (hL:J0 P Y) (h8:P (8,0)=mP 90 2 (.slice va ol.length vc) ol.length (ol.flatMap ObR.cells)) (hol:gR P ol 0) (hcl:∀o,o∈ol->(∃a c,o.fv=.slice a o.fl.length c)/\o.fl.length<=1000) (hn:ol.length<=1000) (hna:∀j,(Y.l j).length<=999000000) :
  Calls prog 32 #[.pointer (some ⟨yb,1,none⟩),.slice va ol.length vc] w fun e w'=>e=.returned (.tuple #[])/\∃P' Y',Sep P' w'/\P' (0,0)=H9 yb Y'/\J0 P' Y'/\aV P P' (fun q=>8<=q.1)/\(Y'.ps=Y.ps/\Y'.psv=Y.psv)/\(∀j,(Y'.l j).length<=(Y.l j).length+2*ol.length+1)/\Stp P w P' w':=by
 obtain⟨i3,zq,zi,xh,qi⟩:=info_parts a6Q;obtain⟨i9,qc,zt,qb,zh⟩:=info_parts a6a;have HI:=hid (And.intro zq (And.intro zi (And.intro xh qi)));have HN:=hid (And.intro qc (And.intro zt (And.intro qb zh)));have H0:Hid (∃P' Y',Sep P' w/\P' (0,0)=H9 yb Y'/\J0 P' Y'/\aV P P' (fun q=>q.1=9)/\gR P' ol 0/\aA Y Y' 3 0/\Stp P w P' w):=hid ⟨P,Y,h,hp,hL,fun _ _ _=>rfl,hol,aA.refl _ _,Stp.refl _ _⟩
 have H8:=hid h8;have zs:=hid hcl;have yk:=hid hna;clear zq zi xh qi qc zt qb zh h hp hL h8 hol hcl hna;go_enter func32,ntmps32;go_wp2_with fail;go_loopw [4] (fun vi wr=>∃i:Nat,i<=ol.length/\vi=.int .i64 i/\∃P' Y',Sep P' wr/\P' (0,0)=H9 yb Y'/\J0 P' Y'/\aV P P' (fun q=>q.1=9)/\gR P' ol i/\aA Y Y' 3 i/\Stp P w P' wr) (fun vi _=>ol.length - (intOf vi).toNat)
 case atStart=>exact ⟨0,by omega,rfl,H0.out⟩
 case round =>
  obtain⟨i,hi,rfl,P1,Y1,hS,xk,xp,xm,xe,xc,yt⟩:=hrel;have xb:wr.ownsRow 0 90 2 (.slice va ol.length vc) ol.length (ol.flatMap ObR.cells):=by
   have:=hS.F (8,0);rw[xm (8,0) (by right;right;decide) R3,H8.out] at this;exact this
  by_cases hlt:i < ol.length
  ·obtain ⟨o,ho⟩:∃o,ol[i]?=some o:=⟨_,L1b hlt⟩
   obtain⟨fa,fc,vj,vx,zp⟩:=gG ObR.cells_len xb;obtain⟨b,hb,_,vq,xv,qj⟩:=zp R4
   cases vj;subst hb;have x1:=qj i 1 o _ ho R3 rfl;obtain⟨⟨la,lc,vn⟩,hl1⟩:=zs.out o (L2a ho);have xj:=xe i o (L1c _) ho;have yo:(i:Int) < (ol.length:Int):=by omega
   rw[vn] at x1 xj;have qn:Hid (Calls prog 50 #[.pointer (some ⟨yb,1,none⟩),.slice la o.fl.length lc] wr fun e w'=>yQ P1 yb Y1 (fun q=>q=(9,i)) 3 1 wr e w'):=hid (mY hS xk xp xj R5 R4 (by have:=yk.out 3;rw [xc.lj];omega));have qz:=hid xm;have vb:=hid xe;have vg:=hid xc;clear hS xk xp xm xe xc xj xb zp qj xv;go_wp2_with (go_at_call 50;refine qn.out.mono ?_;rintro e w2 ⟨rfl,P2,Y2,ye,ze,zf,yz,qo,xz,yn⟩)
   have HQ:Hid (∃P' Y',Sep P' w2/\P' (0,0)=H9 yb Y'/\J0 P' Y'/\aV P P' (fun q=>q.1=9)/\gR P' ol (i+1)/\aA Y Y' 3 (i+1)/\Stp P w P' w2):=hid ⟨P2,Y2,ye,ze,zf,fun q hq hnq=>by rw [yz q hq (fun e=>hnq (by rw [e])),qz.out q hq hnq],fun q g hq hg=>by rw [yz _ (by right;right;simp) (by intro e;simp only [Prod.mk.injEq] at e;omega)];exact vb.out q g R4 hg,vg.out.trans xz,yt.trans yn⟩
   clear ye ze zf yz qo xz;go_roundw
   case rel=>exact ⟨i+1,by omega,by go_num,HQ.out⟩
   case measure=>simp [intOf];omega
  ·obtain rfl:i=ol.length:=by omega
   have yr:¬(ol.length:Int) < (ol.length:Int):=by omega
   have xl:H7 wr yb Y1:=by have:=hS.F (0,0);rw [xk] at this;exact this
   have yh:P1 (8,0)=mP 90 2 (.slice va ol.length vc) ol.length (ol.flatMap ObR.cells):=(xm (8,0) (by right;right;decide) R3).trans H8.out;have yp:=xl.me;have zj:=xl.c 5 R3 R3;have zr:=xl.fz 5;have ha:wr.ownsRow 0 88 1 (Y1.v 5) (Y1.l 5).length ((Y1.l 5).map nH):=xl.row 5 R3 R3;have qv:=xl.ne 5 R3 R3;have zm:(Value.slice va ol.length vc).ownBlock≠some yb:=fun e=>by
    have:=hS.dis (8,0) (0,0) yb (by rw [yh];exact e) (by rw [xk];exact L4a rfl);simp at this
   have qp:(Y1.l 5).length<=999000000:=by rw [xc.l 5 R3];exact yk.out 5
   have xn:Hid (∀fb w3 w',L0d wr w3->w3.heap[fb]?=some (.cells #[.int .u8 9,.int .i64 (-7070 - ((Y1.l 5).length:Int))] 92 (0,0))->wr.heap.size<=fb->aU 90 2 74 88 yb 5 (Y1.l 5).length (zob fb) (Y1.v 5) (.slice va ol.length vc) ((Y1.l 5).map nH) w3 w'->∃P' Y',Sep P' w'/\P' (0,0)=H9 yb Y'/\J0 P' Y'/\aV P P' (fun q=>8<=q.1)/\(Y'.ps=Y.ps/\Y'.psv=Y.psv)/\(∀j,(Y'.l j).length<=(Y.l j).length+2*ol.length+1)/\Stp P w P' w'):=hid fun fb w3 w' hB yd ya hb=>by
    have vu:=hS.swap (8,0) (cU 90 2 (.slice va ol.length vc) ol.length) ⟨_,xb⟩ (fun b hb=>by rw [yh];exact hb);obtain⟨nb,vs,qh,hl,ye,yn⟩:=vu.bookO (by rw [A3.put_ne _ R3];exact xk) (A3.put_same _ _ _) R3 hB yd ya hb (5+2,(Y1.l 5).length);have qu:J0 (P1.put (8,0) (cU 90 2 (.slice va ol.length vc) ol.length)) Y1:=⟨xp.1,fun j i nb h1 h5 hq=>by rw [A3.put_ne _ (by intro e;simp only [Prod.mk.injEq] at e;omega)];exact xp.2 j i nb h1 h5 hq⟩
    refine⟨_,Y1.upd 5 qh nb,ye,zN _ R3,qu.upd R3 R3 R3 R3 ⟨fun e=>by omega,fun e=>by omega,fun e=>by omega,fun _=>⟨vs,fb,hl,rfl⟩⟩,fun q hq hnq=>?_,⟨xc.ps,xc.psv⟩,fun j=>?_,(yt.trans (Stp.swap (8,0) _ (fun b hb=>by rw [yh];exact hb))).trans yn⟩
    ·rw [iG R3 R3 q hq (fun e=>hnq (by rw [e];decide)),A3.put_ne _ (fun e=>hnq (by rw [e];decide)),xm q hq (fun e=>hnq R4)]
    ·have xz:=fB Y1 5 qh nb
     by_cases e4:j=5
     ·subst e4
      rw[xz.lj,xc.l 5 R3];omega
     ·rw [xz.l j e4]
      by_cases e3:j=3
      ·subst e3;rw [xc.lj];omega
      ·rw [xc.l j e3];omega
   have zg:Hid (∀U,Calls prog 53 #[.int .i64 ((Y1.l 5).length:Int)] U fun e w'=>e=.returned (.agg #[.int .u8 9,.int .i64 (-7070 - ((Y1.l 5).length:Int))])/\L0d U w'):=hid fun U=>tD _ U R4
   have qg:=hid xb;have yu:=hid ha;clear hS xk xp xm xe xc xb ha xl yh H0 H8 zs yk;generalize (Y1.v 5)=av at *
   generalize (Y1.l 5).map nH=al at *
   generalize (Y1.l 5).length=na at *
   generalize ol.flatMap ObR.cells=xs at *
   obtain⟨w1,qr⟩:∃w1,w1=wr:=⟨_,rfl⟩
   subst qr;have zn:ol.length<=1000000:=by omega
   clear hn hlt hi yr yt;generalize hnn:ol.length=n at *
   have hn:=zn;have ys:=hid hnn;clear hnn zn;obtain⟨aa,yi,vd,_⟩:=B4 yu.out;subst vd;have vl:¬(n:Int) < (n:Int):=by omega
   go_wp2_with (go_at_call 53;refine (zg.out _).mono ?_;rintro e w2 ⟨rfl,yg⟩)
   have xi:L0d w1 (w2.alloc (Obj.cells #[.int .u8 9,.int .i64 (-7070 - (na:Int))] 92)):=L3a yg yg.size _;have yd:(w2.alloc (Obj.cells #[.int .u8 9,.int .i64 (-7070 - (na:Int))] 92)).heap[w2.heap.size]?=some (.cells #[.int .u8 9,.int .i64 (-7070 - (na:Int))] 92 (0,0)):=heap_alloc_new w2 _;have ya:w1.heap.size<=w2.heap.size:=yg.size;have xh:(w2.alloc (Obj.cells #[.int .u8 9,.int .i64 (-7070 - (na:Int))] 92)).heap.size=w2.heap.size+1:=by simp
   generalize (w2.alloc (Obj.cells #[.int .u8 9,.int .i64 (-7070 - (na:Int))] 92))=w3 at *
   obtain⟨fb,xq⟩:∃fb,fb=w2.heap.size:=⟨_,rfl⟩
   rw[<- xq] at yd ya xh ⊢;have xx:Hid (∀w',aU 90 2 74 88 yb 5 na (zob fb) (.slice aa na yi) (.slice va n vc) al w3 w'->∃P' Y',Sep P' w'/\P' (0,0)=H9 yb Y'/\J0 P' Y'/\aV P P' (fun q=>8<=q.1)/\(Y'.ps=Y.ps/\Y'.psv=Y.psv)/\(∀j,(Y'.l j).length<=(Y.l j).length+2*n+1)/\Stp P w P' w'):=hid fun w' hb=>xn.out fb w3 w' xi yd ya hb
   have hy:yb < w3.heap.size:=L0a yp xi.size;have hc:=keep xi yp zj;have hz:=B9 xi yp zr;have HV:=hid (G9 qg.out xi);have HA:=hid (G9 yu.out xi);clear xq yg zj zr qg yu xn zg yd ya;have q0:(w3.alloc (Obj.cells #[.int .u8 9,.slice (some ⟨fb,0,none⟩) 1 1] 90)).cell? ⟨w3.heap.size,0,none⟩=some (.int .u8 9):=by go_simp
   have q1:(w3.alloc (Obj.cells #[.int .u8 9,.slice (some ⟨fb,0,none⟩) 1 1] 90)).cell? ⟨w3.heap.size,1,none⟩=some (.slice (some ⟨fb,0,none⟩) 1 1):=by go_simp
   have za:L0d w3 (w3.alloc (Obj.cells #[.int .u8 9,.slice (some ⟨fb,0,none⟩) 1 1] 90)):=L3a (L3b _ _) (L1c _) _;have zl:=G9 HV.out za;have qa:(w3.alloc (Obj.cells #[.int .u8 9,.slice (some ⟨fb,0,none⟩) 1 1] 90)).heap.size=w3.heap.size+1:=by simp
   have yj:=hid za;have vf:=hid xh;clear xh xi;generalize (w3.alloc (Obj.cells #[.int .u8 9,.slice (some ⟨fb,0,none⟩) 1 1] 90))=V at *
   obtain⟨zb,zu⟩:∃zb,zb=w3.heap.size:=⟨_,rfl⟩
   rw[<- zu] at q0 q1 qa;have xr:fb+1=zb:=by have:=vf.out;omega
   rw[xr];have xd:zb < V.heap.size:=by omega
   have xg:(Value.slice va n vc).ownBlock≠some zb:=fun e=>by have:=(HV.out.lt zb e).2;omega
   have S0:Hid (Stt V V 0 90 2 (.slice va n vc) n xs [.int .u8 9,.slice (some ⟨fb,0,none⟩) 1 1] [] [(.slice va n vc,n)]):=hid (Stt.start zl);have vk:([.int .u8 9,.slice (some ⟨fb,0,none⟩) 1 1]:List Value).length=2:=rfl;have xu:Hid (∀u,u∈([.int .u8 9,.slice (some ⟨fb,0,none⟩) 1 1]:List Value)->u.oneCell'=true):=hid fun u hu=>by simp at hu;rcases hu with rfl | rfl <;> rfl
   have HT:Hid (TI 74 90 2):=hid ⟨i3,_,_,underlying74,HI.out.1,HI.out.2.1,HI.out.2.2.1,HI.out.2.2.2,rfl,by decide,by decide⟩;have HC:Hid (∀u lits res,Stt V u 0 90 2 (.slice va n vc) n xs [.int .u8 9,.slice (some ⟨fb,0,none⟩) 1 1] lits res->u.cell? ⟨zb,0,none⟩=some (.int .u8 9)/\u.cell? ⟨zb,1,none⟩=some (.slice (some ⟨fb,0,none⟩) 1 1)):=hid fun u lits res h=>⟨h.z xd xg q0,h.z xd xg q1⟩
   have xw:Hid (∀u lits res (o:Obj),Stt V u 0 90 2 (.slice va n vc) n xs [.int .u8 9,.slice (some ⟨fb,0,none⟩) 1 1] lits res->(u.alloc o).cell? ⟨zb,0,none⟩=some (.int .u8 9)/\(u.alloc o).cell? ⟨zb,1,none⟩=some (.slice (some ⟨fb,0,none⟩) 1 1)):=hid fun u lits res o h=>⟨(L0b (a:=⟨zb,0,none⟩) (Below.heap_alloc _ _ _ (L0a xd h.size))).trans (h.z xd xg q0),(L0b (a:=⟨zb,1,none⟩) (Below.heap_alloc _ _ _ (L0a xd h.size))).trans (h.z xd xg q1)⟩
   have HQ:Hid (V.cell? ⟨zb,0,none⟩=some (.int .u8 9)/\V.cell? ⟨zb,1,none⟩=some (.slice (some ⟨fb,0,none⟩) 1 1)):=hid ⟨q0,q1⟩;clear q0 q1 zl za qa zu xr;refine wp_region_held_drew (S:=fun u=>u.cell? ⟨zb,0,none⟩=some (.int .u8 9)/\u.cell? ⟨zb,1,none⟩=some (.slice (some ⟨fb,0,none⟩) 1 1)) Q7 (HC.out _ _ _ S0.out.drew) (fun hHeld=>?_);have zk:=hid S0.out.drew;generalize V.drew=U at *
   refine TW 0 ⟨some 30,.move (.tmp 1),74,"book.go:112",#[],none⟩ ?_
   refine TW 1 ⟨some 31,.move (.tmp 1),74,"book.go:112",#[],none⟩ ?_
   refine TW 2 ⟨some 32,.load 90 (.tmp 5),90,"book.go:112",#[],none⟩ ?_
   refine TW 5 ⟨some 35,.move (.tmp 1),74,"book.go:112",#[],none⟩ ?_
   refine TW 6 ⟨some 36,.load 90 (.tmp 5),90,"book.go:112",#[],none⟩ ?_
   refine TW 7 ⟨some 37,.load 90 (.tmp 5),90,"book.go:112",#[],none⟩ ?_
   refine TW 10 ⟨some 40,.move (.tmp 1),74,"book.go:112",#[],none⟩ ?_
   refine TW 11 ⟨some 41,.load 90 (.tmp 5),90,"book.go:112",#[],none⟩ ?_
   refine TW 12 ⟨some 42,.load 90 (.tmp 5),90,"book.go:112",#[],none⟩ ?_
   refine TW 13 ⟨some 43,.load 90 (.tmp 5),90,"book.go:112",#[],none⟩ ?_
   clear hHeld
   refine a2f 30 5 6 88 "book.go:112" (fun u lits res h => ⟨HC.out _ _ _ h, fun o => xw.out _ _ _ o h⟩) HT.out hn vk xu.out zk.out ?_
   intro x1 x2 x3 a1 a2 a3 c1 c2 c3 lits ww hS;simp only[Act.put,Nat.reduceAdd,T1,T2,T3];clear xu HT HC xw zk S0;have HS:=hid hS;have xh:=hS.size;obtain⟨vs,nb,W4,zz,qe,SW,qm,yw,qf,yy,qk,ve,zo,vp,yv,ym⟩:=uU (s:=74) (zv:=zob fb) hS;rw[<- zz,<- qe];clear hS zz qe;go_wp2_with fail;go_loopw [7] (fun vi wr=>∃k:Nat,k<=4/\vi=.int .i64 k/\Wr W4 wr 90 2 (zob fb) vs k 0) (fun vi _=>4 - (intOf vi).toNat)
   case atStart=>exact ⟨0,by omega,rfl,SW.out⟩
   case round =>
    obtain⟨k,hk,rfl,xa⟩:=hrel;by_cases hlt:k < 4
    ·obtain ⟨p,hp⟩:∃p,vs[k]?=some p:=⟨_,L1b R4⟩
     have yo:(k:Int) < 4:=by omega
     have zd:=hid xa;have yc:=L2a hp;obtain⟨pa,pc,qw,vw,_⟩:=(xa.has p yc).form;have vz:=ve.out p yc;have xf:Hid (∀u:World,(∀b,(∀p,p∈vs->p.1.ownBlock≠some b)->u.heap[b]?=W4.heap[b]?)->u.cell? ⟨nb,k,none⟩=some p.1/\nb < u.heap.size):=hid fun u hu=>by
      have h1:=(hu nb qf.out).trans yw.out;refine⟨?_,(L2b.1 h1).1⟩;simp only[World.cell?,h1];simp[List.getElem?_map,hp]
     clear xa;go_wp2_with fail;go_loopw [8] (fun vi wr=>∃i:Nat,i<=p.2/\vi=.int .i64 i/\Wr W4 wr 90 2 (zob fb) vs k (i*2)) (fun vi _=>p.2 - (intOf vi).toNat)
     case atStart=>exact ⟨0,by omega,rfl,by rw [Nat.zero_mul];exact zd.out⟩
     case round =>
      obtain⟨i,hi,rfl,xa⟩:=hrel;have cn:=(xf.out wr xa.keep).1;have vr:=(xf.out wr xa.keep).2;have qd:=hid xa;by_cases hli:i < p.2
      ·obtain ⟨vy,vo,yq,vh,vt⟩:=(xa.has p yc).form
       obtain⟨b,rfl,yf,vq,xv,zc⟩:=vt R4;have qx:b≠nb:=fun e=>qf.out p yc (by rw [yf,e])
       have xo:b≠zb:=fun e=>yy.out zb xd xg p yc (by rw [yf,e])
       have xy:=(xa.keep zb (yy.out zb xd xg)).trans (qk.out zb xd xg);have d0:wr.cell? ⟨zb,0,none⟩=some (.int .u8 9):=(L0b (a:=⟨zb,0,none⟩) xy).trans HQ.out.1;have d1:wr.cell? ⟨zb,1,none⟩=some (.slice (some ⟨fb,0,none⟩) 1 1):=(L0b (a:=⟨zb,1,none⟩) xy).trans HQ.out.2;obtain⟨g0,zy⟩:=zc (i*2) R4;have ql:=xv (i*2);obtain⟨g1,zx⟩:=zc (i*2+1) R4
       have qq:=xv (i*2+1);rw[yq] at cn;have vm:(i:Int) < (p.2:Int):=by omega
       clear xa xv zc;go_wp2_with fail;refine wp_region_held_drew (S:=fun u=>u.cell? ⟨nb,k,none⟩=some (.slice (some ⟨b,0,none⟩) p.2 vo)/\u.cell? ⟨zb,0,none⟩=some (.int .u8 9)/\u.cell? ⟨zb,1,none⟩=some (.slice (some ⟨fb,0,none⟩) 1 1)) Q7 ⟨cn,d0,d1⟩ (fun hHeld=>?_)
       refine TW 0 ⟨some 62,.move (.tmp 6),88,"book.go:115",#[],none⟩ ?_
       refine TW 1 ⟨some 63,.move (.tmp 7),3,"book.go:115",#[],none⟩ ?_
       refine TW 2 ⟨some 64,.indexAddr 88 (.tmp 62) (.tmp 63),0,"book.go:115",#[⟨0,.data⟩,⟨1,.data⟩],none⟩ ?_
       refine TW 3 ⟨some 65,.load 74 (.tmp 64),74,"book.go:115",#[⟨2,.data⟩],none⟩ ?_
       refine TW 4 ⟨some 66,.move (.tmp 8),3,"book.go:115",#[],none⟩ ?_
       refine TW 5 ⟨some 67,.load 90 (.tmp 5),90,"book.go:115",#[],none⟩ ?_
       refine TW 6 ⟨some 68,.indexAddr 74 (.tmp 65) (.tmp 66),0,"book.go:115",#[⟨3,.data⟩,⟨4,.data⟩,⟨0,.phase⟩,⟨1,.phase⟩,⟨2,.phase⟩,⟨3,.phase⟩,⟨4,.phase⟩,⟨5,.phase⟩],none⟩ ?_
       clear hHeld
       refine TO 7 ⟨none,.store 90 (.tmp 68) (.tmp 67),0,"book.go:115",#[⟨6,.data⟩,⟨5,.data⟩,⟨0,.phase⟩,⟨1,.phase⟩,⟨2,.phase⟩,⟨3,.phase⟩,⟨4,.phase⟩,⟨5,.phase⟩],none⟩ fun K hK => ?_
       go_simp
       refine TG hK ⟨show ((wr.setCell ⟨b,i*2,none⟩ (.int .u8 9)).setCell ⟨b,i*2+1,none⟩ (.slice (some ⟨fb,0,none⟩) 1 1)).cell? ⟨nb,k,none⟩=_ from by (repeat rw [World.cell?_setCell_far _ _ _ _ (show b≠nb from qx)]);exact cn,show ((wr.setCell ⟨b,i*2,none⟩ (.int .u8 9)).setCell ⟨b,i*2+1,none⟩ (.slice (some ⟨fb,0,none⟩) 1 1)).cell? ⟨zb,0,none⟩=_ from by (repeat rw [World.cell?_setCell_far _ _ _ _ (show b≠zb from xo)]);exact d0,show ((wr.setCell ⟨b,i*2,none⟩ (.int .u8 9)).setCell ⟨b,i*2+1,none⟩ (.slice (some ⟨fb,0,none⟩) 1 1)).cell? ⟨zb,1,none⟩=_ from by (repeat rw [World.cell?_setCell_far _ _ _ _ (show b≠zb from xo)]);exact d1⟩ fun hHeld=>?_
       clear hK K;clear hHeld;refine wpAnyH_done Q7 ?_ _;have HX:Hid (Wr W4 ((wr.setCell ⟨b,i*2,none⟩ (.int .u8 9)).setCell ⟨b,i*2+1,none⟩ (.slice (some ⟨fb,0,none⟩) 1 1)).drew 90 2 (zob fb) vs k ((i+1)*2)):=hid (by
        have z0:(zob fb) (i*2)=.int .u8 9:=by unfold zob;rw [if_pos R4]
        have z1:(zob fb) (i*2+1)=.slice (some ⟨fb,0,none⟩) 1 1:=by unfold zob;rw [if_neg R4]
        have s0:=qd.out;have s1:=s0.next hp yf ⟨g0,zy⟩;rw[z0] at s1;have s2:=s1.next hp yf ⟨g1,by rw [World.cell?_setCell_other _ _ _ _ R5];exact zx⟩;rw[z1] at s2;rw[show (i+1)*2=i*2+1+1 by omega];exact s2.drew)
       generalize ((wr.setCell ⟨b,i*2,none⟩ (.int .u8 9)).setCell ⟨b,i*2+1,none⟩ (.slice (some ⟨fb,0,none⟩) 1 1)).drew=Y at *
       clear cn d0 d1 zy ql zx qq;go_wp2_with fail;go_roundw
       case rel=>exact ⟨i+1,by omega,by go_num,HX.out⟩
       case measure=>simp [intOf];omega
      ·obtain rfl:i=p.2:=by omega
       have yr:¬(p.2:Int) < (p.2:Int):=by omega
       rw[qw] at cn;clear xa;go_wp2_with fail;go_roundw
       case rel=>exact ⟨k+1,by omega,by go_num,Wr.done qd.out hp⟩
       case measure=>simp [intOf];omega
    ·obtain rfl:k=4:=by omega
     have zd:=hid xa;have yl:∀b,b < w3.heap.size->(Value.slice va n vc).ownBlock≠some b->wr.heap[b]?=w3.heap[b]?:=fun b hb hn=>by
      have zw:b < V.heap.size:=by have:=yj.out.size;omega
      rw[xa.keep b (yy.out b zw hn),qk.out b zw hn];exact yj.out.block b hb
     have yx:=yl yb hy zm;have y1:wr.cell? ⟨yb,5,none⟩=some (.slice aa na yi):=(L0b (a:=⟨yb,5,none⟩) yx).trans hc;have y2:wr.frozen? ⟨yb,5,none⟩=false:=(L0c (a:=⟨yb,5,none⟩) yx).trans hz;have vv:yb < wr.heap.size:=by have:=xa.size;have:=yv.out;have:=yj.out.size;omega
     have qt:Hid (wr.ownsRow 0 88 1 (.slice aa na yi) na al):=hid (A6 HA.out fun b hb=>yl b (HA.out.lt b hb).2 fun e=>G8 HA.out HV.out R3 b hb e);have qs:=hid (HS.out.rebase yj.out HV.out);have yr:¬(4:Int) < 4:=by decide
     clear xa yx yl;go_wp2_with (at_builtin;go_must (refine A9 _ rfl (.tmp 73) (.tmp 75) 33 rfl 0 88 i9 _ 1 24 underlying33 HN.out.1 HN.out.2.1 HN.out.2.2.1 HN.out.2.2.2 rfl R3 (.slice aa na yi) na al rfl (qt.out.alloc _) (some ⟨wr.heap.size,0,none⟩) 1 1 [.slice (some ⟨nb,0,none⟩) 4 4] rfl rfl (fun _=>⟨_,rfl,World.news_of_block (cs:=#[.slice (some ⟨nb,0,none⟩) 4 4]) (t:=88) (fr:=(0,0)) (B1 (by first | rfl | simp))⟩) (by intro u hu;simp at hu;subst hu;rfl) Q5 R4 R5 ?_))
     intro v5 w5 hown5 hgrow5 hat5;obtain⟨a5,c5,qy,_⟩:=B4 hown5;subst qy;obtain⟨e1,e2,e3,e4,e5,e6,e7⟩:=gZ (te:=74) (zv:=zob fb) qs.out HV.out vp.out (by rw [<- zo.out,ym.out];exact zd.out) HA.out R3 hy qv zm hgrow5 hown5 (fun g hg=>by rcases hat5 g hg with e | e;exact L4a e;exact L4b (by rw [e];simp)) ⟨_,hc⟩;rw[hc] at e1;rw[hz] at e2;rw[<- zo.out] at e4 e7;have HE:=hid (And.intro e4 (And.intro e5 (And.intro e6 e7)))
     clear hown5 hgrow5 hat5 e4 e5 e6 e7;go_wp2_with fail;go_end0
     have xt:=xx.out _ ⟨nb,vs,_,qm,HE.out.1,HE.out.2.1,HE.out.2.2.1,HE.out.2.2.2⟩;rw[<- ys.out] at xt;exact⟨rfl,xt⟩
end
section
variable {M N cb i xb yb:Nat} {P:A3} {W w:World} {Y:PlR} {l:List Ob} {w0:L7}
theorem pZ (h:Lw w0 P w yb Y N M) (hi:Y.ps[i]?=some (xb,cb)) (hN:N<=10000000000) (hM:M<=900000000) :
  Calls prog 10 #[.pointer (some ⟨yb,0,none⟩),.agg #[.pointer (some ⟨xb,0,none⟩),.pointer (some ⟨cb,0,none⟩)],.int .i64 5] w fun e w'=>e=.returned (.bool true)/\∃P2 Y2,Lw w0 P2 w' yb Y2 N (M+100)/\(Y2.ps=Y.ps/\Y2.psv=Y.psv):=by
 obtain⟨l,hl,xs,hs⟩:=tL h hi hN;have HS:=hid hs;have HR:=hid xs;have HL:=hid hl;have HM:=hid hM;clear hs xs h hi hl hM;go_enter func10,ntmps10;go_wp2_with (first | (go_at_call 25;refine (HS.out _ P8).mono ?_;rintro e w1 ⟨va,vc,fl,rfl,xv,xe,xq,xw,P1,xu,xr,xl⟩;have xa:=hid xu;have yd:=hid xr;have xz:=hid xl;have ya:=hid xq;have yc:=hid xw;have xg:=hid xv;have xy:Hid (L0d w w1):=hid ((by repeat (first | exact L3b _ _ | refine L3a ?_ Q2 _):L0d w _).trans (xe.mono R5));have c1:w1.cell? ⟨w.heap.size,1,none⟩=some (.pointer (some ⟨cb,0,none⟩)):=keep xe R5 Q9;have yg:w.heap.size < w1.heap.size:=(by have:=xe.size;simp at this;omega);clear xu xr xl xq xw xv xe) | (go_at_call 27;refine (HR.out _ xy.out).mono ?_;rintro e w2 ⟨ra,rc,rfl,xc,xj⟩;have xi:=hid xc;have xk:=hid xj;have ye:=xj.size;clear xc xj) | (go_at_call 26;refine (kJ (ya.out.later xk.out) xi.out (by have:=HL.out.1;omega) (fun f hf=>by have:=HL.out.2 f hf;omega)).mono ?_;rintro e w3 ⟨rfl,xh⟩;have xn:=hid xh;have yf:=xh.size;clear xh) | (go_at_call 28;rw [<- xg.out];refine (vS ((xa.out.below xk.out).below xn.out).sep xa.out.p0 xa.out.law yd.out xz.out yc.out (by have:=HL.out.1;rw [xg.out];omega) (fun j=>by have:=xa.out.len j;have:=HM.out;omega)).mono ?_;rintro e w4 ⟨rfl,P2,Y2,xt,xo,xp,xx,xf,xd,xm⟩;have HW:Hid (Lw w0 P2 w4 yb Y2 N (M+100)/\(Y2.ps=Y.ps/\Y2.psv=Y.psv)):=hid ⟨((xa.out.below xk.out).below xn.out).book xt xo xp xx (fun q hq=>hq) xf.1 (fun j=>by have:=xd j;have:=xa.out.len j;have:=HL.out.1;have:=xg.out;omega) R4 xm,xf⟩;clear xt xo xp xx xf xd xm))
 go_ret;exact⟨rfl,P2,Y2,HW.out⟩
theorem ObV.later {U:World} {a:Option Addr} (h:ObV W a l) (hB:L0d W U):ObV U a l:=fun h0=>by
 obtain⟨b,e,hb,hc⟩:=h h0;refine⟨b,e,L0a hb hB.size,fun i f hf=>?_⟩;obtain⟨fa,fc,h1,h2,h3⟩:=hc i f hf;exact⟨fa,fc,keep hB hb h1,keep hB hb h2,h3.here hB⟩
theorem zK {B n:Nat} {v:Value} {L:List ObR} (h:W.ownsRow B 90 2 v n (L.flatMap ObR.cells)) (hl:l.length=n) (hk:∀(k:Nat) (o:Ob),l[k]?=some o->∃q:ObR,L[k]?=some q/\q.kind=o.1/\W.ownsRow B 92 2 q.fv o.2.length (A5 o.2)):∃a c,v=.slice a n c/\ObV W a l:=by
 rcases id h.2 with ⟨rfl,h0⟩ | ⟨g,xb,xe,rfl,_,hg,h3,h4,h5,h6⟩
 ·exact ⟨none,0,by rw [h0],fun hp=>by omega⟩
 ·refine ⟨_,xb,rfl,fun _=>⟨g,rfl,(L2b.1 hg).1,fun i f hf=>?_⟩⟩
  obtain⟨q,hq,e1,h1⟩:=hk i f hf;obtain⟨la,lc,xc,_,xa⟩:=T4 h1;have xd:=(L1a.1 hf).1;have hj:∀j u,j < 2->q.cells[j]?=some u->W.cell? ⟨g,i*2+j,none⟩=some u:=fun j u hj hu=>by
   rw[h.cellAt _ R4,E0 ObR.cells_len hq hj];exact hu
  refine⟨la,lc,?_,?_,xa⟩
  ·have:=hj 0 _ R3 rfl;rw [e1] at this;exact this
  ·have:=hj 1 _ R3 rfl;rw [xc] at this;exact this
def tG (ol:List ObR) (m:Nat):D7:=match ol[m]? with
 | some o=>cU 92 2 o.fv o.fl.length
 | none=>D7.none
def obQ (v:Value) (ol:List ObR):A3:=fun i=>if i.1=9 then tG ol i.2 else if i=(8,0) then mP 90 2 v ol.length (ol.flatMap ObR.cells) else D7.none
theorem wP {ol:List ObR} {m b:Nat} (h:(tG ol m).B b):∃o,ol[m]?=some o/\o.fv.ownBlock=some b:=by
 unfold tG at h;split at h
 ·rename_i o ho
  exact⟨o,ho,h⟩
 ·exact h.elim
theorem a1w {g:PgR} {R:RfR} {t:McA} (h:RV g R t) {k:Nat} (hk:k < t.obs.length):t.obs[k]?=some (iU (R.ths.map ThR.slot) (R.ths.map ThR.abs) k):=by
 have e:=h.v.heap;rw[<- e];unfold a2E;rw[List.getElem?_map,List.getElem?_range hk,Option.map_some];congr 1
 unfold iU
 cases ea:atT (R.ths.map ThR.slot) 0 k with
 | none=>rfl
 | some i =>
  simp only;obtain⟨_,hx⟩:=gX _ _ _ _ ea;rw[Nat.sub_zero] at hx;show _=(((R.ths.map ThR.abs).getD i (0,[])).1,((R.ths.map ThR.abs).getD i (0,[])).2.map (J1 (R.ths.map ThR.slot)));show (((R.ths.map ThR.abs).getD i (0,[])).1,((R.ths.map ThR.abs).getD i (0,[])).2.map (ren (sig (R.ths.map ThR.slot))))=_;congr 1
  refine List.map_congr_left fun v hv=>(jR ?_).symm
  cases eo:(R.ths.map ThR.abs)[i]? with
  | none=>rw [List.getD_eq_getElem?_getD,eo] at hv;cases hv
  | some o =>
   rw[List.getD_eq_getElem?_getD,eo] at hv;exact h.v.orefs i o eo ⟨_,hx,by omega⟩ v hv
theorem a0V (h:Lw w0 P w yb Y N M) (hi:Y.ps[i]?=some (xb,cb)) (hN:N<=10000000000) :
  ∃l:List Ob,(l.length<=40/\∀o,o∈l->o.2.length<=12) /\
   (∀V,L0d w V->Calls prog 31 #[.pointer (some ⟨cb,0,none⟩)] V fun e w2=>∃ra rc,e=.returned (.slice ra l.length rc)/\ObV w2 ra l/\L0d V w2) /\
   ∀U,L0d w U->Calls prog 29 #[.pointer (some ⟨xb,0,none⟩)] U fun e w1=>∃va vc,∃ol:List ObR,e=.returned (.slice va l.length vc)/\ol.length=l.length/\L0d U w1/\ObV w1 va l/\(∀o,o∈ol->(∃a c,o.fv=.slice a o.fl.length c)/\o.fl.length<=1000) /\
    ∃P1,Lw w0 P1 w1 yb Y N M/\P1 (8,0)=mP 90 2 (.slice va ol.length vc) ol.length (ol.flatMap ObR.cells)/\gR P1 ol 0:=by
 obtain⟨ox,gx,RX,oc,gc,RC,t,h1,h2,h3,h4,h5,h6,h7,h8⟩:=(h.pair i (xb,cb) hi).ex;have e1:RX.obs.map ObR.abs=t.obs:=by rw [<- h3.abs];rfl
 have xo:∀o,o∈t.obs->o.2.length<=12:=fun o ho=>(h4.obs o ho).len
 have xj:RX.obs.length=t.obs.length:=by rw [<- e1,List.length_map]
 have hd:=h4.cap;refine⟨t.obs,⟨hd.2,xo⟩,fun V hV=>?_,fun U hU=>?_⟩
 ·have xp:=h.below hV
  have hR:A8 V oc cb gc RC:=by have:=xp.sep.F (2,i);rw [h2] at this;exact this
  have xe:=h7.cap;refine (a1a hR (h7.bd (h6.pgOk h5) R4) h7.rin R4).mono ?_;rintro e w2 ⟨lb,rfl,L,hL,xa,hk,_,hb⟩;obtain⟨ra,rc,e,hv⟩:=zK (l:=t.obs) xa xe.symm (fun k o ho=>by
   have xf:=(L1a.1 ho).1;rw[a1w h7 xf] at ho;obtain rfl:=L5b ho;exact hk k R4)
  rw[e,xe];exact⟨ra,rc,rfl,hv,hb⟩
 ·have xm:=h.below hU
  have hM:A4 U ox xb gx RX:=by have:=xm.sep.F (1,i);rw [h1] at this;exact this
  have xl:∀o,o∈RX.obs->o.fl.length<=12:=fun o ho=>xo o.abs (by rw [<- e1];exact List.mem_map.2 ⟨o,ho,rfl⟩)
  refine (a1V hM R4 R4 (fun f hf=>by have:=xl f hf;omega)).mono ?_;rintro e w1 ⟨v,ol,rfl,xa,xn,hk,xd,hb⟩;obtain⟨va,vc,rfl,hv⟩:=zK (l:=t.obs) xa xj.symm (fun k o ho=>by
   rw[<- e1,List.getElem?_map] at ho
   cases ep:RX.obs[k]? with
   | none=>rw [ep] at ho;cases ho
   | some p =>
    rw[ep] at ho;obtain rfl:=L5b ho;obtain⟨fv,q1,q2⟩:=hk k p ep;exact⟨_,q1,rfl,q2⟩)
  have xc:∀(k:Nat) (o:ObR),ol[k]?=some o->k < RX.obs.length/\o.fl.length<=12/\w1.ownsRow U.heap.size 92 2 o.fv o.fl.length (A5 o.fl):=fun k o ho=>by
   have xf:k < RX.obs.length:=by rw [<- xn];exact (L1a.1 ho).1
   obtain⟨fv,q1,q2⟩:=hk k RX.obs[k] (L1b xf);have hm:=xl RX.obs[k] (List.getElem_mem xf);rw[ho] at q1;obtain rfl:=L5b q1;exact⟨xf,hm,q2⟩
  have xg:∀m b,(tG ol m).B b->U.heap.size<=b/\∀b',(Value.slice va RX.obs.length vc).ownBlock=some b'->b'≠b:=fun m b hB=>by
   obtain⟨o,ho,hq⟩:=wP hB;obtain⟨_,_,o1⟩:=xc _ o ho;exact⟨(o1.lt b hq).1,fun b' hb' e=>G8 xa o1 R3 b' hb' (by rw [e];exact hq)⟩
  have xh:ol.length=t.obs.length:=xn.trans xj;rw[xj] at xa xg ⊢;rw[<- xh] at xa xg;refine⟨va,vc,ol,rfl,xh,hb,hv,fun f hf=>?_,loose P (obQ (.slice va ol.length vc) ol),?_,?_,?_⟩
  ·obtain ⟨k,xq⟩:=List.mem_iff_getElem?.1 hf
   obtain⟨_,a1,o1⟩:=xc k f xq;obtain⟨x,y,hx,_⟩:=T4 o1;exact⟨⟨x,y,hx⟩,by omega⟩
  ·have sp:∀i:Nat × Nat,(i.1=9/\obQ (.slice va ol.length vc) ol i=tG ol i.2)\/(i=(8,0)/\obQ (.slice va ol.length vc) ol i=mP 90 2 (.slice va ol.length vc) ol.length (ol.flatMap ObR.cells))\/obQ (.slice va ol.length vc) ol i=D7.none:=fun i=>by
    unfold obQ;by_cases e:i.1=9
    ·exact L4a ⟨e,if_pos e⟩
    ·by_cases e':i=(8,0)
     ·exact L4b (L4a ⟨e',by rw [if_neg e,if_pos e']⟩)
     ·exact L4b (L4b (by rw [if_neg e,if_neg e']))
   refine xm.loose hb (fun i _=>?_) (fun i b _ hB=>?_) (fun i j b _ _ hB hB'=>?_)
   ·rcases sp i with ⟨_,e⟩ | ⟨_,e⟩ | e
    ·rw [e]
     unfold tG;split
     ·rename_i o ho
      obtain⟨_,_,o1⟩:=xc _ o ho;exact⟨_,D6 o1 (L4c _)⟩
     ·trivial
    ·rw [e];exact D6 xa (L4c _)
    ·rw [e];trivial
   ·rcases sp i with ⟨_,e⟩ | ⟨_,e⟩ | e
    ·rw [e] at hB;exact (xg _ b hB).1
    ·rw [e] at hB;exact (xa.lt b hB).1
    ·rw [e] at hB;exact hB.elim
   ·rcases sp i with ⟨ei,e⟩ | ⟨ei,e⟩ | e
    ·rw [e] at hB
     rcases sp j with ⟨ej,e'⟩ | ⟨ej,e'⟩ | e'
     ·rw [e'] at hB'
      obtain⟨f,hf,ho⟩:=wP hB;obtain⟨f',xi,xk⟩:=wP hB';have l1:=(xc _ f hf).1;have l2:=(xc _ f' xi).1;have xr:i.2=j.2:=by
       rcases Nat.lt_trichotomy i.2 j.2 with c | c | c
       ·exact (xd _ _ f f' b c l2 hf xi ho xk).elim
       ·exact c
       ·exact (xd _ _ f' f b c l1 xi hf xk ho).elim
      exact Prod.ext (ei.trans ej.symm) xr
     ·rw [e'] at hB';exact ((xg _ b hB).2 b hB' rfl).elim
     ·rw [e'] at hB';exact hB'.elim
    ·rw [e] at hB
     rcases sp j with ⟨ej,e'⟩ | ⟨ej,e'⟩ | e'
     ·rw [e'] at hB';exact ((xg _ b hB').2 b hB rfl).elim
     ·rw [ei,ej]
     ·rw [e'] at hB';exact hB'.elim
    ·rw [e] at hB;exact hB.elim
  ·rw [O0 P _ R3];rfl
  ·intro q o _ ho
   rw[O0 P _ (show 8<=9 by decide)];show tG ol q=_;unfold tG;rw[ho]
theorem wJ (h:Lw w0 P w yb Y N M) (hi:Y.ps[i]?=some (xb,cb)) (hN:N<=10000000000) (hM:M<=900000000) (kd:Int) (h3:kd≠3) (h4:kd≠4) (h5:kd≠5) :
  Calls prog 10 #[.pointer (some ⟨yb,0,none⟩),.agg #[.pointer (some ⟨xb,0,none⟩),.pointer (some ⟨cb,0,none⟩)],.int .i64 kd] w fun e w'=>e=.returned (.bool true)/\∃P2 Y2,Lw w0 P2 w' yb Y2 N (M+100)/\(Y2.ps=Y.ps/\Y2.psv=Y.psv):=by
 obtain⟨l,hl,xs,hs⟩:=a0V h hi hN;have HS:=hid hs;have HR:=hid xs;have HL:=hid hl;have HM:=hid hM;clear hs xs h hi hl hM;go_enter func10,ntmps10;go_wp2_with (first | (go_at_call 29;refine (HS.out _ P8).mono ?_;rintro e w1 ⟨va,vc,fl,rfl,xv,xe,xq,xw,P1,xu,xr,xl⟩;have xa:=hid xu;have yd:=hid xr;have xz:=hid xl;have ya:=hid xq;have yc:=hid xw;have xg:=hid xv;have xy:Hid (L0d w w1):=hid ((by repeat (first | exact L3b _ _ | refine L3a ?_ Q2 _):L0d w _).trans (xe.mono R5));have c1:w1.cell? ⟨w.heap.size,1,none⟩=some (.pointer (some ⟨cb,0,none⟩)):=keep xe R5 Q9;have yg:w.heap.size < w1.heap.size:=(by have:=xe.size;simp at this;omega);clear xu xr xl xq xw xv xe) | (go_at_call 31;refine (HR.out _ xy.out).mono ?_;rintro e w2 ⟨ra,rc,rfl,xc,xj⟩;have xi:=hid xc;have xk:=hid xj;have ye:=xj.size;clear xc xj) | (go_at_call 30;refine (jQ (ya.out.later xk.out) xi.out (by have:=HL.out.1;omega) (fun f hf=>by have:=HL.out.2 f hf;omega)).mono ?_;rintro e w3 ⟨rfl,xh⟩;have xn:=hid xh;have yf:=xh.size;clear xh) | (go_at_call 32;rw [<- xg.out];refine (tH ((xa.out.below xk.out).below xn.out).sep xa.out.p0 xa.out.law yd.out xz.out yc.out (by have:=HL.out.1;rw [xg.out];omega) (fun j=>by have:=xa.out.len j;have:=HM.out;omega)).mono ?_;rintro e w4 ⟨rfl,P2,Y2,xt,xo,xp,xx,xf,xd,xm⟩;have HW:Hid (Lw w0 P2 w4 yb Y2 N (M+100)/\(Y2.ps=Y.ps/\Y2.psv=Y.psv)):=hid ⟨((xa.out.below xk.out).below xn.out).book xt xo xp xx (fun q hq=>hq) xf.1 (fun j=>by have:=xd j;have:=xa.out.len j;have:=HL.out.1;have:=xg.out;omega) R4 xm,xf⟩;clear xt xo xp xx xf xd xm))
 go_ret;exact⟨rfl,P2,Y2,HW.out⟩
end
section
variable {M N cb i xb yb:Nat} {P:A3} {Y:PlR} {w:World} {w0:L7}
theorem a0F (h:Lw w0 P w yb Y N M) (hi:Y.ps[i]?=some (xb,cb)) (hN:N<=10000000000) (hM:M<=900000000) (kd:Int) :
  Calls prog 10 #[.pointer (some ⟨yb,0,none⟩),.agg #[.pointer (some ⟨xb,0,none⟩),.pointer (some ⟨cb,0,none⟩)],.int .i64 kd] w fun e w'=>e=.returned (.bool true)/\∃P2 Y2,Lw w0 P2 w' yb Y2 N (M+100)/\(Y2.ps=Y.ps/\Y2.psv=Y.psv):=by
 by_cases h3:kd=3
 ·rw [h3];exact qA h hi hN
 by_cases h4:kd=4
 ·rw [h4];exact a0G h hi hM
 by_cases h5:kd=5
 ·rw [h5];exact pZ h hi hN hM
 exact wJ h hi hN hM kd h3 h4 h5
theorem a4N (h:Lw w0 P w yb Y N M) (hi:Y.ps[i]?=some (xb,cb)) (hN:N<=10000000000) (hM:M<=900000000) (kd a b:Int) (k2:kd≠2) (k7:kd≠7) (k8:kd≠8) (k9:kd≠9) (k11:kd≠11) (fa la sa:Option Addr) (fn fc ln lc sn sc:Nat) :
  Calls prog 35 #[.pointer (some ⟨yb,0,none⟩),.agg #[.pointer (some ⟨xb,0,none⟩),.pointer (some ⟨cb,0,none⟩)],.agg #[.int .i64 kd,.int .i64 a,.int .i64 b,.slice fa fn fc,.slice la ln lc,.slice sa sn sc]] w fun e w'=>e=.returned (.bool true)/\∃P2 Y2,Lw w0 P2 w' yb Y2 N (M+100)/\(Y2.ps=Y.ps/\Y2.psv=Y.psv):=by
 have HL:=hid h;have HI:=hid hi;have HN:=hid hN;have HM:=hid hM;clear h hi hN hM;go_enter func35,ntmps35;go_wp2_with (go_at_call 10;refine (a0F (HL.out.below P8) HI.out HN.out HM.out kd).mono ?_;rintro e w1 ⟨rfl,P2,Y2,hW⟩;have HW:=hid hW;clear hW)
 go_ret;exact⟨rfl,P2,Y2,HW.out⟩
end
section
variable {Y:PlR} {cb xb yb:Nat} {w:World}
def PlR.join (Y:PlR) (p:Nat × Nat) (pv:Value):PlR:={ Y with ps:=Y.ps++[p],psv:=pv }
theorem H7.join {U w1:World} {v1:Value} (h:H7 w yb Y) (hU:L0d w U) (hg:U.grownBy w1 Y.psv.ownBlock) (hat:∀g,v1.ownBlock=some g->Y.psv.ownBlock=some g\/g=U.heap.size) (ho:w1.ownsRow 0 48 2 v1 (Y.ps.length+1) (Y.ps.flatMap cC++[.pointer (some ⟨xb,0,none⟩),.pointer (some ⟨cb,0,none⟩)])) :
  w1.cell? ⟨yb,0,none⟩=some Y.psv/\w1.frozen? ⟨yb,0,none⟩=false/\yb < w1.heap.size/\H7 (w1.setCell ⟨yb,0,none⟩ v1) yb (Y.join (xb,cb) v1)/\(∀k,k < w.heap.size->¬R7 yb Y k->(w1.setCell ⟨yb,0,none⟩ v1).heap[k]?=w.heap[k]?)/\(∀k,R7 yb (Y.join (xb,cb) v1) k->R7 yb Y k\/w.heap.size<=k)/\w.heap.size<=(w1.setCell ⟨yb,0,none⟩ v1).heap.size/\(w1.setCell ⟨yb,0,none⟩ v1).os=w.os/\(w1.setCell ⟨yb,0,none⟩ v1).tape=w.tape/\(w1.setCell ⟨yb,0,none⟩ v1).output=w.output:=by
 have xc:=h.me;have xe:=hU.size;have xd:=hg.size;have K:∀k,k < w.heap.size->Y.psv.ownBlock≠some k->w1.heap[k]?=w.heap[k]?:=fun k hk hn=>(hg.block k R4 fun e=>hn e.symm).trans (hU.block k hk)
 have Ky:=K yb xc h.ne0;have c5:∀i,w1.cell? ⟨yb,i,none⟩=w.cell? ⟨yb,i,none⟩:=fun i=>L0b (a:=⟨yb,i,none⟩) Ky
 have z5:∀i,w1.frozen? ⟨yb,i,none⟩=w.frozen? ⟨yb,i,none⟩:=fun i=>L0c (a:=⟨yb,i,none⟩) Ky
 have xa:v1.ownBlock≠some yb:=fun e=>by
  rcases hat yb e with h' | h'
  ·exact h.ne0 h'
  ·omega
 have K2:∀k,k < w.heap.size->k≠yb->Y.psv.ownBlock≠some k->(w1.setCell ⟨yb,0,none⟩ v1).heap[k]?=w.heap[k]?:=fun k hk h1 h2=>(heap_setCell_other _ _ _ _ h1).trans (K k hk h2)
 refine⟨(c5 0).trans h.c0,(z5 0).trans (h.fz 0),by omega,⟨by simp;omega,fun j=>?_,World.cell?_setCell_same _ _ _ ((c5 0).trans h.c0),?_,xa,fun j h1 h2=>?_,fun j h1 h2=>?_,h.ne⟩,fun k hk hn=>K2 k hk (fun e=>hn (L4a e)) (fun e=>hn (L4b (L4a e))),fun k hk=>?_,by simp;omega,hg.os.trans hU.os,hg.tape.trans hU.tape,hg.output.trans hU.output⟩
 ·rw [<- h.fz j,<- z5 j];go_simp
 ·show World.ownsRow _ 0 48 2 v1 (Y.ps++[(xb,cb)]).length ((Y.ps++[(xb,cb)]).flatMap cC)
  rw[List.length_append,List.flatMap_append];exact A6 ho fun b hb=>heap_setCell_other _ _ _ _ fun e=>xa (by have e':b=yb:=e;rw [<- e'];exact hb)
 ·refine (World.cell?_setCell_other _ _ _ _ fun e=>?_).trans ((c5 j).trans (h.c j h1 h2))
  simp only[Addr.mk.injEq] at e;omega
 ·exact A6 (h.row j h1 h2) fun b hb=>K2 b ((h.row j h1 h2).lt b hb).2 (fun e=>h.ne j h1 h2 (e▸hb)) (fun e=>G8 (h.row j h1 h2) h.row0 (a3P j) b hb e)
 ·rcases hk with hk | hk | ⟨j,h1,h2,hk⟩
  ·exact L4a (L4a hk)
  ·rcases hat k hk with h' | h'
   ·exact L4a (L4b (L4a h'))
   ·exact L4b R4
  ·exact L4a (L4b (L4b ⟨j,h1,h2,hk⟩))
theorem a5Y:(prog.info? 48).map (fun i=>(i.zero,i.size,i.bytes))=some (some (.agg #[.pointer none,.pointer none]),2,16):=by kernel_rfl
theorem vZ (e:Int) :
  Calls prog 19 #[.pointer (some ⟨yb,0,none⟩),.pointer none,.int .i64 e,.pointer none,.int .i64 e] w fun e w'=>e=.returned (.bool true)/\w'=w:=by
 go_enter func19,ntmps19;go_wp2_with fail;go_ret;exact⟨rfl,rfl⟩
theorem vY (h:H7 w yb Y) (hn:Y.ps.length<=1000000000) (e:Int) :
  Calls prog 19 #[.pointer (some ⟨yb,0,none⟩),.pointer (some ⟨xb,0,none⟩),.int .i64 e,.pointer (some ⟨cb,0,none⟩),.int .i64 e] w fun e w'=>e=.returned (.bool true)/\∃pv,H7 w' yb (Y.join (xb,cb) pv)/\(∀k,k < w.heap.size->¬R7 yb Y k->w'.heap[k]?=w.heap[k]?)/\(∀k,R7 yb (Y.join (xb,cb) pv) k->R7 yb Y k\/w.heap.size<=k)/\w.heap.size<=w'.heap.size/\w'.os=w.os/\w'.tape=w.tape/\w'.output=w.output:=by
 obtain⟨xi,hi,hz,xd,xc⟩:=info_parts a5Y;have HI:=hid hi;have HZ:=hid hz;have xh:=hid xd;have xf:=hid xc;have c0:=h.c0;have xj:=h.me;have HP:=hid h;have HN:=hid hn;generalize hpv:Y.psv=pv0 at c0;have xa:=hid hpv;clear hi hz xd xc h hn hpv;go_enter func19,ntmps19;go_wp2_with (at_builtin;go_must (refine A9 _ rfl (.tmp 27) (.tmp 31) 28 rfl 0 48 xi _ 2 16 underlying28 HI.out HZ.out xh.out xf.out rfl R3 pv0 Y.ps.length (Y.ps.flatMap cC) rfl (by rw [<- xa.out];repeat (first | exact HP.out.row0 | refine World.ownsRow.alloc ?_ _ | refine World.ownsRow.drew ?_)) (some ⟨w.heap.size,0,none⟩) 1 1 [.pointer (some ⟨xb,0,none⟩),.pointer (some ⟨cb,0,none⟩)] rfl rfl (fun _=>⟨_,rfl,World.news_of_block (cs:=#[.pointer (some ⟨xb,0,none⟩),.pointer (some ⟨cb,0,none⟩)]) (t:=48) (fr:=(0,0)) (B1 R5)⟩) (by simp [Value.oneCell']) (by have:=HN.out;unfold maxLen;omega) (by have:=HN.out;omega) (L4c _) ?_))
 intro v1 w1 hown1 hgrow1 hat1;obtain⟨g1,xg,xe,_,_⟩:=hown1.form R4;subst xe;obtain⟨q0,q1,q2,hJ⟩:=HP.out.join (U:=w.alloc (.cells #[.pointer (some ⟨xb,0,none⟩),.pointer (some ⟨cb,0,none⟩)] 48)) P8 (by rw [xa.out];exact hgrow1) (by rw [xa.out];intro g hgg;rcases hat1 g hgg with a | a;exact L4a a;exact L4b Q8) hown1
 rw[xa.out] at q0;have HJ:=hid hJ;clear hown1 hgrow1 hat1 hJ;go_wp2_with fail;go_ret;exact⟨rfl,_,HJ.out⟩
end
section
variable {Y:PlR} {w:World} {yb:Nat}
def iP (A:Int) (n:Nat):Nat:=((if A < 0 then -(A+1) else A) % (n:Int)).toNat
theorem a3b (A:Int) {n:Nat} (h1:1<=n):iP A n < n:=by
 unfold iP;have l1:=Int.emod_nonneg (if A < 0 then -(A+1) else A) (b:=(n:Int)) R4;have l2:=Int.emod_lt_of_pos (if A < 0 then -(A+1) else A) (b:=(n:Int)) R4;omega
theorem tO (A:Int) {n:Nat} (h1:1<=n):(iP A n:Int)=(if A < 0 then -(A+1) else A) % (n:Int):=by
 unfold iP;exact Int.toNat_of_nonneg (Int.emod_nonneg _ R4)
theorem a3c (A:Int) (n:Nat) (hA : -9223372036854775808<=A/\A<=9223372036854775807) (h1:1<=n) (hn:n<=1000000000) :
  Calls prog 36 #[.int .i64 A,.int .i64 n] w fun e w'=>e=.returned (.int .i64 (iP A n:Int))/\w'=w:=by
 have xa:¬(n:Int)=0:=by omega
 have xb:((n:Int) == 0)=false:=L2c.2 xa;by_cases h0:A < 0
 ·go_enter func36,ntmps36
  go_wp2_with fail;have e : -((A+1).tmod n)=(iP A n:Int):=by rw [tO A h1,if_pos h0,<- Int.neg_tmod,Int.tmod_eq_emod_of_nonneg R4]
  rw[e];go_ret;exact⟨rfl,rfl⟩
 ·go_enter func36,ntmps36
  go_wp2_with fail;have e:A % (n:Int)=(iP A n:Int):=by rw [tO A h1,if_neg R4]
  rw[e];go_ret;exact⟨rfl,rfl⟩
theorem H7.pairs (h:H7 w yb Y):∃a c,Y.psv=.slice a Y.ps.length c/\(0 < Y.ps.length->∃b,a=some ⟨b,0,none⟩/\b < w.heap.size/\∀(i:Nat) (p:Nat × Nat),Y.ps[i]?=some p->w.cell? ⟨b,i*2,none⟩=some (.pointer (some ⟨p.1,0,none⟩))/\w.cell? ⟨b,i*2+1,none⟩=some (.pointer (some ⟨p.2,0,none⟩))):=by
 have hr:=h.row0;rcases id hr.2 with ⟨e,h0⟩ | ⟨g,xa,xb,e,_,hg,h3,h4,h5,h6⟩
 ·exact ⟨none,0,by rw [e,h0],fun hp=>by omega⟩
 ·rw [e] at hr
  refine⟨_,xa,e,fun _=>⟨g,rfl,(L2b.1 hg).1,fun i p hp=>?_⟩⟩;have xc:=(L1a.1 hp).1;have hj:∀j u,j < 2->(cC p)[j]?=some u->w.cell? ⟨g,i*2+j,none⟩=some u:=fun j u hj hu=>by
   rw[hr.cellAt _ R4,E0 (s:=2) (fun _=>rfl) hp hj];exact hu
  exact⟨hj 0 _ R3 rfl,hj 1 _ R3 rfl⟩
theorem a6d {w0:L7} {P:A3} {N M i xb cb:Nat} (h:Lw w0 P w yb Y N M) (hi:Y.ps[i]?=some (xb,cb)) (hN:N<=9999990000) (hM:M<=900000000) (kd a b:Int) (k2:2<=kd) (k6:kd<=6) (fa la sa:Option Addr) (fn fc ln lc sn sc:Nat) :
  Calls prog 35 #[.pointer (some ⟨yb,0,none⟩),.agg #[.pointer (some ⟨xb,0,none⟩),.pointer (some ⟨cb,0,none⟩)],.agg #[.int .i64 kd,.int .i64 a,.int .i64 b,.slice fa fn fc,.slice la ln lc,.slice sa sn sc]] w fun e w'=>e=.returned (.bool true)/\∃P2 Y2,Lw w0 P2 w' yb Y2 (N+10000) (M+100)/\(Y2.ps=Y.ps/\Y2.psv=Y.psv):=by
 by_cases e:kd=2
 ·rw [e]
  refine (a6e h hi hN a b fa la sa fn fc ln lc sn sc).mono ?_;rintro e w' ⟨rfl,P2,hL⟩;exact⟨rfl,P2,Y,hL.mono (L1c _) R4,rfl,rfl⟩
 ·refine (a4N h hi R4 hM kd a b e R4 R4 R4 R4 fa la sa fn fc ln lc sn sc).mono ?_
  rintro e w' ⟨rfl,P2,Y2,hL,hq⟩;exact⟨rfl,P2,Y2,hL.mono R4 (L1c _),hq⟩
end
theorem Lw.pairAt {w0:L7} {w:World} {P:A3} {yb N M pb pc n r xb cb:Nat} {Y:PlR} (h:Lw w0 P w yb Y N M) (hpv:Y.psv=.slice (some ⟨pb,0,none⟩) n pc) (hx:Y.ps[r]?=some (xb,cb)) :
  w.cell? ⟨yb,0,none⟩=some (.slice (some ⟨pb,0,none⟩) n pc)/\pb < w.heap.size/\w.cell? ⟨pb,r*2,none⟩=some (.pointer (some ⟨xb,0,none⟩))/\w.cell? ⟨pb,r*2+1,none⟩=some (.pointer (some ⟨cb,0,none⟩)):=by
 have hp:=h.play;obtain⟨a,c,e,hc⟩:=hp.pairs;have xc:=(L1a.1 hx).1;obtain⟨b,rfl,hb,xa⟩:=hc R4;rw[hpv] at e;simp only[Value.slice.injEq,Option.some.injEq,Addr.mk.injEq,and_true] at e;obtain⟨e1,e2,e3⟩:=e;subst e1;obtain⟨c1,c2⟩:=xa r (xb,cb) hx;exact⟨by rw [<- hpv];exact hp.c0,hb,c1,c2⟩
theorem a3I {w0:L7} {w:World} {P:A3} {yb N M:Nat} {Y:PlR} (h:Lw w0 P w yb Y N M) (_hN:N<=9999990000) (hM:M<=900000000) (kd a b:Int) (ha : -9223372036854775808<=a/\a<=9223372036854775807) (k2:2<=kd) (k9:kd<=9) (fa la sa:Option Addr) (fn fc ln lc sn sc:Nat)
  (hon:∀(w1:L7) (P1:A3) (u:World) (i xb cb:Nat),(∀V,oU w1 V->oU w0 V)->Lw w1 P1 u yb Y N M->Y.ps[i]?=some (xb,cb)->Calls prog 35 #[.pointer (some ⟨yb,0,none⟩),.agg #[.pointer (some ⟨xb,0,none⟩),.pointer (some ⟨cb,0,none⟩)],.agg #[.int .i64 kd,.int .i64 a,.int .i64 b,.slice fa fn fc,.slice la ln lc,.slice sa sn sc]] u fun e w'=>e=.returned (.bool true)/\∃P2 Y2,Lw w1 P2 w' yb Y2 (N+10000) (M+100)/\(Y2.ps=Y.ps/\Y2.psv=Y.psv)) :
  Calls prog 11 #[.pointer (some ⟨yb,0,none⟩),.agg #[.int .i64 kd,.int .i64 a,.int .i64 b,.slice fa fn fc,.slice la ln lc,.slice sa sn sc]] w fun e w'=>e=.returned (.bool true)/\∃P2 Y2,Lw w0 P2 w' yb Y2 (N+10000) (M+100):=by
 have hp:=h.play;obtain⟨pa,pc,xa,xg⟩:=hp.pairs;have c0:=hp.c0;have xo:=hp.me;have xw:yb < w.heap.size+1:=by omega
 rw[xa] at c0;have e1:¬kd=1:=by omega
 have xs:¬kd=10:=by omega
 have xn:¬kd=12:=by omega
 have b1:(kd == 1)=false:=L2c.2 e1;have yf:(kd == 10)=false:=L2c.2 xs;have ya:(kd == 12)=false:=L2c.2 xn;have l2:¬kd < 2:=by omega
 have xz:¬11 < kd:=by omega
 have xy:=h.nps;have HL:=hid h;have xx:=hid hon;have xq:Hid (∀(u:World) (G:Nat->Prop),L0d w u->∀V,oU (w0.more u G) V->oU w0 V):=hid fun u G hu V hV=>by
  have hB:=(h.below hu).bel;exact⟨hV.os.trans hB.os,hV.tape.trans hB.tape,hV.output.trans hB.output,L5a hB.size hV.size,fun b hb hF=>(hV.block b (L0a hb hB.size) (L4a ⟨hb,hF⟩)).trans (hB.block b hb hF)⟩
 clear hon;by_cases h0:Y.ps.length=0
 ·rw [h0] at c0
  clear xg h hp xa;go_enter func11,ntmps11;go_wp2_with fail;go_ret;exact⟨rfl,P,Y,(HL.out.below P8).mono R4 R4⟩
 ·obtain ⟨pb,rfl,yc,xc⟩:=xg R4
  have hr:=a3b a (n:=Y.ps.length) R4;have xh:Hid (∀U,Calls prog 36 #[.int .i64 a,.int .i64 (Y.ps.length:Int)] U fun e w'=>e=.returned (.int .i64 (iP a Y.ps.length:Int))/\w'=U):=hid fun U=>a3c a Y.ps.length ha R4 R4
  generalize iP a Y.ps.length=r at hr xh;obtain⟨⟨xb,cb⟩,hx⟩:∃p,Y.ps[r]?=some p:=⟨_,L1b hr⟩
  have HX:=hid hx;have yd:=hid xa;have yg:(r:Int) < (Y.ps.length:Int):=by omega
  have xp:¬(Y.ps.length:Int)=0:=by omega
  have ye:((Y.ps.length:Int) == 0)=false:=L2c.2 xp;have xe:Hid (L0d w (w.alloc (Obj.cells #[.int .i64 kd,.int .i64 a,.int .i64 b,.slice fa fn fc,.slice la ln lc,.slice sa sn sc] 43))):=hid (L3a (L3b _ _) (L1c _) _);have HG:Hid (∀i b,(P i).B b->¬b=w.heap.size):=hid fun i b hb e=>by have:=(P i).lt w (h.sep.F i) b hb;omega
  have HC:Hid (∀u,Below (w.alloc (Obj.cells #[.int .i64 kd,.int .i64 a,.int .i64 b,.slice fa fn fc,.slice la ln lc,.slice sa sn sc] 43)).heap.size (w.alloc (Obj.cells #[.int .i64 kd,.int .i64 a,.int .i64 b,.slice fa fn fc,.slice la ln lc,.slice sa sn sc] 43)) u->(u.cell? ⟨yb,0,none⟩=some (.slice (some ⟨pb,0,none⟩) Y.ps.length pc)/\u.cell? ⟨pb,r*2,none⟩=some (.pointer (some ⟨xb,0,none⟩))/\u.cell? ⟨pb,r*2+1,none⟩=some (.pointer (some ⟨cb,0,none⟩))/\u.cell? ⟨w.heap.size,0,none⟩=some (.int .i64 kd)/\u.cell? ⟨w.heap.size,1,none⟩=some (.int .i64 a)/\u.cell? ⟨w.heap.size,2,none⟩=some (.int .i64 b)/\u.cell? ⟨w.heap.size,3,none⟩=some (.slice fa fn fc)/\u.cell? ⟨w.heap.size,4,none⟩=some (.slice la ln lc)/\u.cell? ⟨w.heap.size,5,none⟩=some (.slice sa sn sc))):=hid fun u hu=>by
   obtain⟨q1,q2,q3,q4⟩:=h.pairAt xa hx;have hB:L0d w u:=xe.out.trans (hu.mono R5);exact⟨keep hB xo q1,keep hB q2 q3,keep hB q2 q4,keep hu R5 Q9,keep hu R5 Q9,keep hu R5 Q9,keep hu R5 Q9,keep hu R5 Q9,keep hu R5 Q9⟩
  have xv:Hid (∀P2 Y2 w2,Lw (w0.more (w.alloc (Obj.cells #[.int .i64 kd,.int .i64 a,.int .i64 b,.slice fa fn fc,.slice la ln lc,.slice sa sn sc] 43)).drew (fun b=>b=w.heap.size)) P2 w2 yb Y2 (N+10000) (M+100)->Y2.ps=Y.ps->Y2.psv=Y.psv->Lw w0 P2 w2 yb Y2 (N+10000) (M+100)/\(w2.cell? ⟨yb,0,none⟩=some (.slice (some ⟨pb,0,none⟩) Y.ps.length pc)/\w2.cell? ⟨pb,r*2,none⟩=some (.pointer (some ⟨xb,0,none⟩))/\w2.cell? ⟨pb,r*2+1,none⟩=some (.pointer (some ⟨cb,0,none⟩))/\w2.cell? ⟨w.heap.size,0,none⟩=some (.int .i64 kd)/\w2.cell? ⟨w.heap.size,1,none⟩=some (.int .i64 a)/\w2.cell? ⟨w.heap.size,2,none⟩=some (.int .i64 b)/\w2.cell? ⟨w.heap.size,3,none⟩=some (.slice fa fn fc)/\w2.cell? ⟨w.heap.size,4,none⟩=some (.slice la ln lc)/\w2.cell? ⟨w.heap.size,5,none⟩=some (.slice sa sn sc))):=hid fun P2 Y2 w2 xd q1 q2=>by
   have xt:Lw w0 P (w.alloc (Obj.cells #[.int .i64 kd,.int .i64 a,.int .i64 b,.slice fa fn fc,.slice la ln lc,.slice sa sn sc] 43)).drew yb Y N M:=h.below (L3c xe.out);obtain⟨hL,hk⟩:=xt.less xd;obtain⟨y1,_,y3,y4⟩:=hL.pairAt (q2.trans xa) (by rw [q1];exact hx);have xf:=hk w.heap.size (by show _ < (w.alloc (Obj.cells #[.int .i64 kd,.int .i64 a,.int .i64 b,.slice fa fn fc,.slice la ln lc,.slice sa sn sc] 43)).heap.size;simp) rfl
   have cc:∀j,w2.cell? ⟨w.heap.size,j,none⟩=(w.alloc (Obj.cells #[.int .i64 kd,.int .i64 a,.int .i64 b,.slice fa fn fc,.slice la ln lc,.slice sa sn sc] 43)).drew.cell? ⟨w.heap.size,j,none⟩:=fun j=>L0b (a:=⟨w.heap.size,j,none⟩) xf
   exact⟨hL,y1,y3,y4,(cc 0).trans Q9,(cc 1).trans Q9,(cc 2).trans Q9,(cc 3).trans Q9,(cc 4).trans Q9,(cc 5).trans Q9⟩
  have xr:Hid (Lw (w0.more (w.alloc (Obj.cells #[.int .i64 kd,.int .i64 a,.int .i64 b,.slice fa fn fc,.slice la ln lc,.slice sa sn sc] 43)).drew (fun b=>b=w.heap.size)) P (w.alloc (Obj.cells #[.int .i64 kd,.int .i64 a,.int .i64 b,.slice fa fn fc,.slice la ln lc,.slice sa sn sc] 43)).drew yb Y N M):=hid ((h.below (L3c xe.out)).more _ HG.out);have HV:Hid (Below (w.alloc (Obj.cells #[.int .i64 kd,.int .i64 a,.int .i64 b,.slice fa fn fc,.slice la ln lc,.slice sa sn sc] 43)).heap.size (w.alloc (Obj.cells #[.int .i64 kd,.int .i64 a,.int .i64 b,.slice fa fn fc,.slice la ln lc,.slice sa sn sc] 43)) (w.alloc (Obj.cells #[.int .i64 kd,.int .i64 a,.int .i64 b,.slice fa fn fc,.slice la ln lc,.slice sa sn sc] 43)).drew):=hid (L3c (L3b _ _))
  clear xc h hp xa xg hx;go_enter func11,ntmps11;go_wp2_with fail;refine wp_region_held_drew (S:=fun u=>u.cell? ⟨yb,0,none⟩=some (.slice (some ⟨pb,0,none⟩) Y.ps.length pc)/\u.cell? ⟨pb,r*2,none⟩=some (.pointer (some ⟨xb,0,none⟩))/\u.cell? ⟨pb,r*2+1,none⟩=some (.pointer (some ⟨cb,0,none⟩))/\u.cell? ⟨w.heap.size,0,none⟩=some (.int .i64 kd)/\u.cell? ⟨w.heap.size,1,none⟩=some (.int .i64 a)/\u.cell? ⟨w.heap.size,2,none⟩=some (.int .i64 b)/\u.cell? ⟨w.heap.size,3,none⟩=some (.slice fa fn fc)/\u.cell? ⟨w.heap.size,4,none⟩=some (.slice la ln lc)/\u.cell? ⟨w.heap.size,5,none⟩=some (.slice sa sn sc)) Q7 (HC.out _ HV.out) (fun hHeld=>?_)
  refine TW 0 ⟨some 40,.move (.tmp 0),27,"law.go:161",#[],none⟩ ?_
  refine TW 1 ⟨some 41,.move (.tmp 0),27,"law.go:161",#[],none⟩ ?_
  refine TW 2 ⟨some 42,.nilCheck (.tmp 41),0,"law.go:161",#[⟨1,.data⟩],none⟩ ?_
  refine TW 3 ⟨some 43,.fieldAddr 37 (.tmp 42) 0,0,"law.go:161",#[⟨2,.data⟩],none⟩ ?_
  refine TW 4 ⟨some 44,.load 28 (.tmp 43),28,"law.go:161",#[⟨3,.data⟩],none⟩ ?_
  refine TW 5 ⟨some 45,.fieldAddr 43 (.tmp 3) 1,0,"law.go:161",#[],none⟩ ?_
  refine TW 6 ⟨some 46,.load 3 (.tmp 45),3,"law.go:161",#[⟨5,.data⟩],none⟩ ?_
  refine TW 7 ⟨some 47,.move (.tmp 0),27,"law.go:161",#[],none⟩ ?_
  refine TW 8 ⟨some 48,.nilCheck (.tmp 47),0,"law.go:161",#[⟨7,.data⟩],none⟩ ?_
  refine TW 9 ⟨some 49,.fieldAddr 37 (.tmp 48) 0,0,"law.go:161",#[⟨8,.data⟩],none⟩ ?_
  refine TW 10 ⟨some 50,.load 28 (.tmp 49),28,"law.go:161",#[⟨9,.data⟩],none⟩ ?_
  refine TW 11 ⟨some 51,.call ⟨.builtin .len,#[.tmp 50],#[28]⟩,3,"law.go:161",#[⟨10,.data⟩],none⟩ ?_
  refine TW 15 ⟨some 55,.load 43 (.tmp 3),43,"law.go:161",#[],none⟩ ?_
  clear hHeld
  refine TO 12 ⟨some 52,.call ⟨.value (.func 36),#[.tmp 46,.tmp 51],#[3,3]⟩,3,"law.go:161",#[⟨6,.data⟩,⟨11,.data⟩],none⟩ fun K hK => ?_
  go_simp
  go_at_call 36
  refine (xh.out _).mono ?_;rintro e w1 ⟨rfl,hw⟩;rw[hw];clear hw w1
  dsimp only
  refine TG hK (HC.out _ HV.out) fun hHeld=>?_
  clear hK K
  refine TW 13 ⟨some 53,.indexAddr 28 (.tmp 44) (.tmp 52),0,"law.go:161",#[⟨4,.data⟩,⟨12,.data⟩],none⟩ ?_
  refine TW 14 ⟨some 54,.load 48 (.tmp 53),48,"law.go:161",#[⟨13,.data⟩],none⟩ ?_
  clear hHeld
  refine TO 16 ⟨some 56,.call ⟨.value (.func 35),#[.tmp 40,.tmp 54,.tmp 55],#[27,48,43]⟩,4,"law.go:161",#[⟨0,.data⟩,⟨14,.data⟩,⟨15,.data⟩,⟨12,.chain⟩],none⟩ fun K hK => ?_
  go_simp
  go_at_call 35
  refine (xx.out _ _ _ _ _ _ (xq.out _ _ (L3c xe.out)) xr.out HX.out).mono ?_;rintro e w2 ⟨rfl,P2,Y2,xd,xk,xl⟩;obtain⟨xj,xi⟩:=xv.out P2 Y2 w2 xd xk xl;have xm:=hid xj;have xu:=hid xi;clear xd xk xl xj xi
  dsimp only
  refine TG hK xu.out fun hHeld=>?_
  clear hK K
  refine TW 17 ⟨some 4,.assign (.tmp 56),4,"law.go:161",#[⟨16,.data⟩,⟨16,.chain⟩,⟨0,.phase⟩,⟨1,.phase⟩,⟨2,.phase⟩,⟨3,.phase⟩,⟨4,.phase⟩,⟨5,.phase⟩,⟨6,.phase⟩,⟨7,.phase⟩,⟨8,.phase⟩,⟨9,.phase⟩,⟨10,.phase⟩,⟨11,.phase⟩,⟨12,.phase⟩,⟨13,.phase⟩,⟨14,.phase⟩,⟨15,.phase⟩,⟨16,.phase⟩],none⟩ ?_
  clear hHeld;refine wpAnyH_done Q7 ?_ _;go_wp2_with fail;go_ret;exact⟨rfl,P2,Y2,xm.out⟩
end Go.Proofs.YtbkmgoffiigdbaaGreatDoor
