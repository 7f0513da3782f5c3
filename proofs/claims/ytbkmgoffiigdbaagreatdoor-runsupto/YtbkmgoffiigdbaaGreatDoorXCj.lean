import Derived.Test.YtbkmgoffiigdbaaGreatDoorXCi
namespace Go.Proofs.YtbkmgoffiigdbaaGreatDoor
open Go.RowKit Go.Sort Go.Proofs.Tryz
set_option maxHeartbeats 4000000
set_option maxRecDepth 100000
section
variable {W:World} {l:List FrA}
theorem jV {sl:List Int} {v:Val} (h:VS sl v):J1 sl v=ren (sig sl) v:=by
 unfold J1 ren;by_cases h2:v.1=2
 ·rw [if_pos h2,if_pos h2]
  obtain⟨x,hx,h0⟩:=(h h2).2;rw[bN hx,List.getD_eq_getElem?_getD,hx];show ((2,x):Val)=(2,((x.toNat:Nat):Int));rw[Int.toNat_of_nonneg h0]
 ·rw [if_neg h2,if_neg h2]
theorem FrV.later {U:World} {a:Option Addr} (h:FrV W a l) (hB:Below W.heap.size W U):FrV U a l:=fun h0=>by
 obtain⟨b,e,hb,hc⟩:=h h0;refine⟨b,e,L0a hb hB.size,fun i f hf=>?_⟩;obtain⟨la,lc,sa,sc,h1,h2,h3,h4,h5,h6⟩:=hc i f hf;exact⟨la,lc,sa,sc,keep hB hb h1,keep hB hb h2,keep hB hb h3,keep hB hb h4,h5.here hB,h6.here hB⟩
theorem zE {B n:Nat} {v:Value} {L:List FrR} (h:W.ownsRow B 86 4 v n (L.flatMap FrR.cells)) (hl:l.length=n) (hk:∀(k:Nat) (f:FrA),l[k]?=some f->∃q:FrR,L[k]?=some q/\q.fn=f.fn/\q.pc=f.pc/\W.ownsRow B 92 2 q.lv f.loc.length (A5 f.loc)/\W.ownsRow B 92 2 q.sv f.stk.length (A5 f.stk)):∃a c,v=.slice a n c/\FrV W a l:=by
 rcases id h.2 with ⟨rfl,h0⟩ | ⟨g,xc,xf,rfl,_,hg,h3,h4,h5,h6⟩
 ·exact ⟨none,0,by rw [h0],fun hp=>by omega⟩
 ·refine ⟨_,xc,rfl,fun _=>⟨g,rfl,(L2b.1 hg).1,fun i f hf=>?_⟩⟩
  obtain⟨q,hq,e1,e2,h1,h2⟩:=hk i f hf;obtain⟨la,lc,xe,_,xa⟩:=S8 h1;obtain⟨sa,sc,xd,_,xb⟩:=S8 h2;have xg:=(L1a.1 hf).1;have hj:∀j u,j < 4->q.cells[j]?=some u->W.cell? ⟨g,i*4+j,none⟩=some u:=fun j u hj hu=>by
   rw[h.cellAt _ R4,D6 FrR.cells_len hq hj];exact hu
  refine⟨la,lc,sa,sc,?_,?_,?_,?_,xa,xb⟩
  ·have:=hj 0 _ R3 rfl;rw [e1] at this;exact this
  ·have:=hj 1 _ R3 rfl;rw [e2] at this;exact this
  ·have:=hj 2 _ R3 rfl;rw [xe] at this;exact this
  ·have:=hj 3 _ R3 rfl;rw [xd] at this;exact this
def nN (fl:List FrR) (m:Nat):D5:=match fl[m / 2]? with
 | some f=>if m % 2=0 then dJ 92 2 f.lv f.loc.length else dJ 92 2 f.sv f.stk.length
 | none=>D5.none
def frQ (v:Value) (fl:List FrR):A3:=fun i=>if i.1=9 then nN fl i.2 else if i=(8,0) then mU 86 4 v fl.length (fl.flatMap FrR.cells) else D5.none
theorem vR {fl:List FrR} {m b:Nat} (h:(nN fl m).B b):∃f,fl[m / 2]?=some f/\(f.val (decide (m % 2=1))).ownBlock=some b:=by
 unfold nN at h;split at h
 ·rename_i f hf
  refine⟨f,hf,?_⟩;split at h
  ·rename_i e
   rw[show decide (m % 2=1)=false from decide_eq_false R4];exact h
  ·rename_i e
   rw[show decide (m % 2=1)=true from decide_eq_true R4];exact h
 ·exact h.elim
theorem tN {w0:N4} {w:World} {P:A3} {yb N M i xb cb:Nat} {Y:PlR} (h:Lw w0 P w yb Y N M) (hi:Y.ps[i]?=some (xb,cb)) (hN:N<=10000000000) :
  ∃l:List FrA,(l.length<=12/\∀f,f∈l->f.loc.length<=8/\f.stk.length<=18) /\
   (∀V,Below w.heap.size w V->Calls Tryz.prog 27 #[.pointer (some ⟨cb,0,none⟩)] V fun e w2=>∃ra rc,e=.returned (.slice ra l.length rc)/\FrV w2 ra l/\Below V.heap.size V w2) /\
   ∀U,Below w.heap.size w U->Calls Tryz.prog 25 #[.pointer (some ⟨xb,0,none⟩)] U fun e w1=>∃va vc,∃fl:List FrR,e=.returned (.slice va l.length vc)/\fl.length=l.length/\Below U.heap.size U w1/\FrV w1 va l/\(∀f,f∈fl->(∃a c,f.lv=.slice a f.loc.length c)/\(∃a c,f.sv=.slice a f.stk.length c)/\f.loc.length<=1000/\f.stk.length<=1000) /\
    ∃P1,Lw w0 P1 w1 yb Y N M/\P1 (8,0)=mU 86 4 (.slice va fl.length vc) fl.length (fl.flatMap FrR.cells)/\gM P1 fl 0:=by
 obtain⟨ox,gx,RX,oc,gc,RC,t,h1,h2,h3,h4,h5,h6,h7,h8⟩:=(h.pair i (xb,cb) hi).ex;have e1:RX.frs.map FrR.abs=t.frs:=by rw [<- h3.abs];rfl
 have xk:∀f,f∈t.frs->f.loc.length<=8/\f.stk.length<=18:=fun f hf=>⟨(h4.frame h5 hf).1,(h4.frame h5 hf).2.1⟩
 have xh:RX.frs.length=t.frs.length:=by rw [<- e1,List.length_map]
 have hd:=h4.depth;refine⟨t.frs,⟨h4.depth,xk⟩,fun V hV=>?_,fun U hU=>?_⟩
 ·have xs:=h.below hV
  have hR:A8 V oc cb gc RC:=by have:=xs.sep.F (2,i);rw [h2] at this;exact this
  refine (a0Z hR (h7.bd (h6.pgOk h5) R4) h7.rin).mono ?_;rintro e w2 ⟨vl,rfl,L,hL,xa,hk,hb⟩;have e2:t.frs=(RC.frs.map FrR.abs).map (D8 (sig (RC.ths.map ThR.slot))):=h7.v.frs;obtain⟨ra,rc,rfl,hv⟩:=zE (l:=t.frs) xa (by rw [e2,List.length_map,List.length_map]) (fun k f hf=>by
   rw[e2,List.getElem?_map,List.getElem?_map] at hf
   cases ep:RC.frs[k]? with
   | none=>rw [ep] at hf;cases hf
   | some p =>
    rw[ep] at hf;obtain rfl:=Option.some.inj hf;obtain⟨q,hq,q1,q2,q3,q4⟩:=hk k p (L1a.1 ep).1 ep;have xn:VSs (RC.ths.map ThR.slot) (p.loc++p.stk):=h7.v.frame (f:=p.abs) (List.mem_map.2 ⟨p,L2a ep,rfl⟩);have m1:p.loc.map (J1 (RC.ths.map ThR.slot))=p.loc.map (ren (sig (RC.ths.map ThR.slot))):=List.map_congr_left fun v hv=>jV (xn v (List.mem_append_left _ hv))
    have m2:p.stk.map (J1 (RC.ths.map ThR.slot))=p.stk.map (ren (sig (RC.ths.map ThR.slot))):=List.map_congr_left fun v hv=>jV (xn v (List.mem_append_right _ hv))
    rw[m1] at q3;rw[m2] at q4;refine⟨q,hq,q1,q2,?_,?_⟩
    ·have:(p.loc.map (ren (sig (RC.ths.map ThR.slot)))).length=p.loc.length:=List.length_map _
     show w2.ownsRow _ 92 2 q.lv (p.loc.map (ren (sig (RC.ths.map ThR.slot)))).length _;rw[this];exact q3
    ·have:(p.stk.map (ren (sig (RC.ths.map ThR.slot)))).length=p.stk.length:=List.length_map _
     show w2.ownsRow _ 92 2 q.sv (p.stk.map (ren (sig (RC.ths.map ThR.slot)))).length _;rw[this];exact q4)
  have xd:RC.frs.length=t.frs.length:=by rw [e2,List.length_map,List.length_map]
  rw[xd];exact⟨ra,rc,rfl,hv,hb⟩
 ·have xm:=h.below hU
  have hM:A4 U ox xb gx RX:=by have:=xm.sep.F (1,i);rw [h1] at this;exact this
  have xl:∀f,f∈RX.frs->f.loc.length<=8/\f.stk.length<=18:=fun f hf=>xk f.abs (by rw [<- e1];exact List.mem_map.2 ⟨f,hf,rfl⟩)
  refine (uL hM R4 (fun f hf=>by have:=xl f hf;omega)).mono ?_;rintro e w1 ⟨v,fl,rfl,xa,xo,hk,xe,hb⟩;obtain⟨va,vc,rfl,hv⟩:=zE (l:=t.frs) xa xh.symm (fun k f hf=>by
   rw[<- e1,List.getElem?_map] at hf
   cases ep:RX.frs[k]? with
   | none=>rw [ep] at hf;cases hf
   | some p =>
    rw[ep] at hf;obtain rfl:=Option.some.inj hf;obtain⟨lv,sv,q1,q2,q3,_⟩:=hk k p ep;exact⟨_,q1,rfl,rfl,q2,q3⟩)
  have xc:∀(k:Nat) (f:FrR),fl[k]?=some f->k < RX.frs.length/\f.loc.length<=8/\f.stk.length<=18/\w1.ownsRow U.heap.size 92 2 f.lv f.loc.length (A5 f.loc)/\w1.ownsRow U.heap.size 92 2 f.sv f.stk.length (A5 f.stk):=fun k f hf=>by
   have xj:k < RX.frs.length:=by rw [<- xo];exact (L1a.1 hf).1
   obtain⟨lv,sv,q1,q2,q3,_⟩:=hk k RX.frs[k] (L1b xj);rw[hf] at q1;obtain rfl:=Option.some.inj q1;have:=xl _ (List.getElem_mem xj);exact⟨xj,this.1,this.2,q2,q3⟩
  have xf:∀m b,(nN fl m).B b->U.heap.size<=b/\∀b',(Value.slice va RX.frs.length vc).ownBlock=some b'->b'≠b:=fun m b hB=>by
   obtain⟨f,hf,ho⟩:=vR hB;obtain⟨_,_,_,o1,o2⟩:=xc _ f hf
   cases ed:decide (m % 2=1) with
   | true=>rw [ed] at ho;exact ⟨(o2.lt b ho).1,fun b' hb' e=>H5 xa o2 R3 b' hb' (by rw [e];exact ho)⟩
   | false=>rw [ed] at ho;exact ⟨(o1.lt b ho).1,fun b' hb' e=>H5 xa o1 R3 b' hb' (by rw [e];exact ho)⟩
  have xd:fl.length=t.frs.length:=xo.trans xh;rw[xh] at xa xf ⊢;rw[<- xd] at xa xf;refine⟨va,vc,fl,rfl,xd,hb,hv,fun f hf=>?_,loose P (frQ (.slice va fl.length vc) fl),?_,?_,?_⟩
  ·obtain ⟨k,xr⟩:=List.mem_iff_getElem?.1 hf
   obtain⟨_,a1,a2,o1,o2⟩:=xc k f xr;obtain⟨x,y,hx,_⟩:=S8 o1;obtain⟨x',y',xq,_⟩:=S8 o2;exact⟨⟨x,y,hx⟩,⟨x',y',xq⟩,by omega,by omega⟩
  ·have sp:∀i:Nat × Nat,(i.1=9/\frQ (.slice va fl.length vc) fl i=nN fl i.2)\/(i=(8,0)/\frQ (.slice va fl.length vc) fl i=mU 86 4 (.slice va fl.length vc) fl.length (fl.flatMap FrR.cells))\/frQ (.slice va fl.length vc) fl i=D5.none:=fun i=>by
    unfold frQ;by_cases e:i.1=9
    ·exact Or.inl ⟨e,if_pos e⟩
    ·by_cases e':i=(8,0)
     ·exact Or.inr (Or.inl ⟨e',by rw [if_neg e,if_pos e']⟩)
     ·exact Or.inr (Or.inr (by rw [if_neg e,if_neg e']))
   refine xm.loose hb (fun i _=>?_) (fun i b _ hB=>?_) (fun i j b _ _ hB hB'=>?_)
   ·rcases sp i with ⟨_,e⟩ | ⟨_,e⟩ | e
    ·rw [e]
     unfold nN;split
     ·rename_i f hf
      obtain⟨_,_,_,o1,o2⟩:=xc _ f hf;split
      ·exact ⟨_,E2 o1 (Nat.zero_le _)⟩
      ·exact ⟨_,E2 o2 (Nat.zero_le _)⟩
     ·trivial
    ·rw [e];exact E2 xa (Nat.zero_le _)
    ·rw [e];trivial
   ·rcases sp i with ⟨_,e⟩ | ⟨_,e⟩ | e
    ·rw [e] at hB;exact (xf _ b hB).1
    ·rw [e] at hB;exact (xa.lt b hB).1
    ·rw [e] at hB;exact hB.elim
   ·rcases sp i with ⟨ei,e⟩ | ⟨ei,e⟩ | e
    ·rw [e] at hB
     rcases sp j with ⟨ej,e'⟩ | ⟨ej,e'⟩ | e'
     ·rw [e'] at hB'
      obtain⟨f,hf,ho⟩:=vR hB;obtain⟨f',xg,xi⟩:=vR hB';have l1:=(xc _ f hf).1;have l2:=(xc _ f' xg).1;have xp:i.2=j.2:=by
       rcases Nat.lt_trichotomy (i.2 / 2) (j.2 / 2) with c | c | c
       ·exact (xe _ _ _ _ f f' b (Or.inl c) l2 hf xg ho xi).elim
       ·by_cases c2:i.2 % 2=j.2 % 2
        ·omega
        ·exact (xe _ _ _ _ f f' b (Or.inr ⟨c,fun e=>c2 (by
          have xt:∀x:Nat,(x % 2=1)=(decide (x % 2=1)=true):=fun x=>by rw [decide_eq_true_eq]
          have:=congrArg (·=true) e;simp only[decide_eq_true_eq] at this;have h1:i.2 % 2=1↔j.2 % 2=1:=by rw [this]
          omega)⟩) l2 hf xg ho xi).elim
       ·exact (xe _ _ _ _ f' f b (Or.inl c) l1 xg hf xi ho).elim
      exact Prod.ext (ei.trans ej.symm) xp
     ·rw [e'] at hB';exact ((xf _ b hB).2 b hB' rfl).elim
     ·rw [e'] at hB';exact hB'.elim
    ·rw [e] at hB
     rcases sp j with ⟨ej,e'⟩ | ⟨ej,e'⟩ | e'
     ·rw [e'] at hB';exact ((xf _ b hB').2 b hB rfl).elim
     ·rw [ei,ej]
     ·rw [e'] at hB';exact hB'.elim
    ·rw [e] at hB;exact hB.elim
  ·rw [N6 P _ R3];rfl
  ·intro q f _ hf
   rw[N6 P _ (show 8<=9 by decide),N6 P _ (show 8<=9 by decide)];constructor
   ·show nN fl (2*q)=_
    unfold nN;rw[show 2*q / 2=q by omega,hf];simp only;rw[if_pos R4]
   ·show nN fl (2*q+1)=_
    unfold nN;rw[show (2*q+1) / 2=q by omega,hf];simp only;rw[if_neg R4]
end
section
variable {P:A3} {Y:PlR} {w:World} {yb:Nat}
theorem a6N:(prog.info? 90).map (fun i=>(i.zero,i.size,i.bytes))=some (some (.agg #[.int .u8 0,.slice none 0 0]),2,32):=by kernel_rfl
theorem a5W:(prog.info? 88).map (fun i=>(i.zero,i.size,i.bytes))=some (some (.slice none 0 0),1,24):=by kernel_rfl
theorem Sep.bookO {w3 w':World} {n fb:Nat} {k:Nat × Nat} {v:Value} (h:Sep P w) (hp:P (0,0)=I2 yb Y) (hk:P k=dJ 90 2 v n) (hk0:k≠(0,0)) (hB:Below w.heap.size w w3) (hfb:w3.heap[fb]?=some (.cells #[.int .u8 9,.int .i64 (-7070 - ((Y.l 5).length:Int))] 92 (0,0))) (hfw:w.heap.size<=fb) (hb:aZ 90 2 74 88 yb 5 (Y.l 5).length (zob fb) (Y.v 5) v ((Y.l 5).map nL) w3 w') (m:Nat × Nat) :
  ∃nb vs av',vs.length=4/\Sep (((P.put (0,0) (I2 yb (Y.upd 5 av' nb))).put k D5.none).put m (obP (Y.l 5).length nb fb vs)) w'/\Stp P w (((P.put (0,0) (I2 yb (Y.upd 5 av' nb))).put k D5.none).put m (obP (Y.l 5).length nb fb vs)) w':=by
 obtain⟨nb,vs,av',hl,hE,hc,ho,hW⟩:=hb;have xb:I1 w yb Y:=by have:=h.F (0,0);rw [hp] at this;exact this
 have xi:I1 w3 yb Y:=xb.keep hB.size fun b hb _=>hB.block b hb
 have xe:∀b,(P (0,0)).B b↔Q0 yb Y b:=fun b=>by rw [hp];exact Iff.rfl
 have xc:∀b,(P k).B b↔v.ownBlock=some b:=fun b=>by rw [hk];exact Iff.rfl
 have hv:∀b,v.ownBlock=some b->¬Q0 yb Y b:=fun b hb hq=>hk0 (h.dis k (0,0) b ((xc b).2 hb) ((xe b).2 hq))
 have xd:Has w 0 90 2 v n:=by have:=h.F k;rw [hk] at this;exact this
 have xk:∀b,v.ownBlock=some b->b < w.heap.size:=fun b hb=>by obtain ⟨xs,hx⟩:=xd;exact (hx.lt b hb).2
 obtain⟨xj,xf⟩:=xi.book R3 R3 hv hW hc ho;have xg:=hB.size;have xh:=(L2b.1 hfb).1;have xl:w'.heap[fb]?=w3.heap[fb]?:=hW.keep fb xh (fun e=>by have:=xb.me;omega) (fun e=>by have:=xb.lt fb (Or.inr (Or.inr ⟨5,by decide,by decide,e⟩));omega) (fun e=>by have:=xk fb e;omega);have k1:∀b,b < w.heap.size->¬(P (0,0)).B b->¬(P k).B b->w'.heap[b]?=w.heap[b]?:=fun b hb h0 hk'=>by
  rw[xe] at h0;rw[xc] at hk';exact (hW.keep b R4 (fun e=>h0 (Or.inl e)) (fun e=>h0 (Or.inr (Or.inr ⟨5,by decide,by decide,e⟩))) hk').trans (hB.block b hb)
 have k2:∀b,(I2 yb (Y.upd 5 av' nb)).B b->(P (0,0)).B b\/w.heap.size<=b:=fun b hb=>by
  rw[xe];rcases xf b hb with h' | h'
  ·exact Or.inl h'
  ·exact Or.inr R4
 have k3:∀b,(obP (Y.l 5).length nb fb vs).B b->(P k).B b\/w.heap.size<=b:=fun b hb=>by
  rw[xc];rcases hb with (hb | ⟨p,hp',hb⟩) | hb
  ·have:=hW.nbn;exact Or.inr R4
  ·rcases hW.vsn p hp' b hb with h' | h'
   ·exact Or.inl h'
   ·exact Or.inr R4
  ·exact Or.inr R4
 refine⟨nb,vs,av',hl,h.two (0,0) k m _ _ (Nat.le_trans xg hW.size) k1 xj ⟨hE,xl.trans hfb⟩ k2 k3 (fun b hb hq=>?_),Stp.two (0,0) k m _ _ (hW.os.trans hB.os) (hW.tape.trans hB.tape) (hW.output.trans hB.output) (Nat.le_trans xg hW.size) k1 k2 k3⟩
 ·have xa:Q0 yb Y b->False:=fun hpb=>by
   have xm:=xb.lt b hpb;rcases hq with (hq | ⟨p,hp',hq⟩) | hq
   ·have:=hW.nbn;omega
   ·rcases hW.vsn p hp' b hq with h' | h'
    ·exact hv b h' hpb
    ·omega
   ·omega
  rcases xf b hb with h' | h'
  ·exact xa h'
  ·rcases hb with hb | hb | ⟨i,hi,hi5,hb⟩
   ·exact xa (Or.inl hb)
   ·exact xa (Or.inr (Or.inl hb))
   ·by_cases e':i=5
    ·subst e'
     have ev:(Y.upd 5 av' nb).v 5=av':=by simp [PlR.upd]
     rw[ev] at hb;rcases hq with (hq | ⟨p,hp',hq⟩) | hq
     ·subst hq
      exact kA ho hE.blk R3 hb
     ·obtain ⟨ys,hy⟩:=hE.has p hp'
      exact H5 hy ho R3 b hq hb
     ·omega
    ·have ev:(Y.upd 5 av' nb).v i=Y.v i:=if_neg e'
     rw[ev] at hb;exact xa (Or.inr (Or.inr ⟨i,hi,hi5,hb⟩))
def gS (P:A3) (ol:List ObR) (i:Nat):Prop:=∀q o,i<=q->ol[q]?=some o->P (9,q)=dJ 92 2 o.fv o.fl.length
theorem tJ {va:Option Addr} {vc:Nat} {ol:List ObR} (h:Sep P w) (hp:P (0,0)=I2 yb Y) (hL:I9 P Y) (h8:P (8,0)=mU 90 2 (.slice va ol.length vc) ol.length (ol.flatMap ObR.cells)) (hol:gS P ol 0) (hcl:∀o,o∈ol->(∃a c,o.fv=.slice a o.fl.length c)/\o.fl.length<=1000) (hn:ol.length<=1000) (hna:∀j,(Y.l j).length<=999000000) :
  Calls prog 32 #[.pointer (some ⟨yb,1,none⟩),.slice va ol.length vc] w fun e w'=>e=.returned (.tuple #[])/\∃P' Y',Sep P' w'/\P' (0,0)=I2 yb Y'/\I9 P' Y'/\bA P P' (fun q=>8<=q.1)/\(Y'.ps=Y.ps/\Y'.psv=Y.psv)/\(∀j,(Y'.l j).length<=(Y.l j).length+2*ol.length+1)/\Stp P w P' w':=by
 obtain⟨i3,zo,qg,xi,zr⟩:=info_parts a6N;obtain⟨i9,zt,zy,zj,qa⟩:=info_parts a5W;have HI:=hid (And.intro zo (And.intro qg (And.intro xi zr)));have HN:=hid (And.intro zt (And.intro zy (And.intro zj qa)));have H0:Hid (∃P' Y',Sep P' w/\P' (0,0)=I2 yb Y'/\I9 P' Y'/\bA P P' (fun q=>q.1=9)/\gS P' ol 0/\aE Y Y' 3 0/\Stp P w P' w):=hid ⟨P,Y,h,hp,hL,fun _ _ _=>rfl,hol,aE.refl _ _,Stp.refl _ _⟩
 have H8:=hid h8;have qi:=hid hcl;have yq:=hid hna;clear zo qg xi zr zt zy zj qa h hp hL h8 hol hcl hna;go_enter func32,ntmps32;go_wp2_with fail;go_loopw [4] (fun vi wr=>∃i:Nat,i<=ol.length/\vi=.int .i64 i/\∃P' Y',Sep P' wr/\P' (0,0)=I2 yb Y'/\I9 P' Y'/\bA P P' (fun q=>q.1=9)/\gS P' ol i/\aE Y Y' 3 i/\Stp P w P' wr) (fun vi _=>ol.length - (intOf vi).toNat)
 case atStart=>exact ⟨0,by omega,rfl,H0.out⟩
 case round =>
  obtain⟨i,hi,rfl,P1,Y1,hS,xl,xo,xk,xe,xc,yr⟩:=hrel;have xb:wr.ownsRow 0 90 2 (.slice va ol.length vc) ol.length (ol.flatMap ObR.cells):=by
   have:=hS.F (8,0);rw[xk (8,0) (by right;right;decide) R3,H8.out] at this;exact this
  by_cases hlt:i < ol.length
  ·obtain ⟨o,ho⟩:∃o,ol[i]?=some o:=⟨_,L1b hlt⟩
   obtain⟨fa,fc,qz,vw,zh⟩:=gG ObR.cells_len xb;obtain⟨b,hb,_,vp,xz,qb⟩:=zh R4
   cases qz;subst hb;have x1:=qb i 1 o _ ho R3 rfl;obtain⟨⟨la,lc,vk⟩,hl1⟩:=qi.out o (L2a ho);have xh:=xe i o (L1c _) ho;have zc:(i:Int) < (ol.length:Int):=by omega
   rw[vk] at x1 xh;have qx:Hid (Calls prog 50 #[.pointer (some ⟨yb,1,none⟩),.slice la o.fl.length lc] wr fun e w'=>yR P1 yb Y1 (fun q=>q=(9,i)) 3 1 wr e w'):=hid (nD hS xl xo xh R5 R4 (by have:=yq.out 3;rw [xc.lj];omega));have vu:=hid xk;have qu:=hid xe;have qw:=hid xc;clear hS xl xo xk xe xc xh xb zh qb xz;go_wp2_with (go_at_call 50;refine qx.out.mono ?_;rintro e w2 ⟨rfl,P2,Y2,yi,qj,qd,zd,vq,xu,yv⟩)
   have HQ:Hid (∃P' Y',Sep P' w2/\P' (0,0)=I2 yb Y'/\I9 P' Y'/\bA P P' (fun q=>q.1=9)/\gS P' ol (i+1)/\aE Y Y' 3 (i+1)/\Stp P w P' w2):=hid ⟨P2,Y2,yi,qj,qd,fun q hq hnq=>by rw [zd q hq (fun e=>hnq (by rw [e])),vu.out q hq hnq],fun q g hq hg=>by rw [zd _ (by right;right;simp) (by intro e;simp only [Prod.mk.injEq] at e;omega)];exact qu.out q g R4 hg,qw.out.trans xu,yr.trans yv⟩
   clear yi qj qd zd vq xu;go_roundw
   case rel=>exact ⟨i+1,by omega,by go_num,HQ.out⟩
   case measure=>simp [intOf];omega
  ·obtain rfl:i=ol.length:=by omega
   have yx:¬(ol.length:Int) < (ol.length:Int):=by omega
   have xm:I1 wr yb Y1:=by have:=hS.F (0,0);rw [xl] at this;exact this
   have yh:P1 (8,0)=mU 90 2 (.slice va ol.length vc) ol.length (ol.flatMap ObR.cells):=(xk (8,0) (by right;right;decide) R3).trans H8.out;have za:=xm.me;have qk:=xm.c 5 R3 R3;have zg:=xm.fz 5;have ha:wr.ownsRow 0 88 1 (Y1.v 5) (Y1.l 5).length ((Y1.l 5).map nL):=xm.row 5 R3 R3;have vl:=xm.ne 5 R3 R3;have zk:(Value.slice va ol.length vc).ownBlock≠some yb:=fun e=>by
    have:=hS.dis (8,0) (0,0) yb (by rw [yh];exact e) (by rw [xl];exact Or.inl rfl);simp at this
   have vh:(Y1.l 5).length<=999000000:=by rw [xc.l 5 R3];exact yq.out 5
   have ya:Hid (∀fb w3 w',Below wr.heap.size wr w3->w3.heap[fb]?=some (.cells #[.int .u8 9,.int .i64 (-7070 - ((Y1.l 5).length:Int))] 92 (0,0))->wr.heap.size<=fb->aZ 90 2 74 88 yb 5 (Y1.l 5).length (zob fb) (Y1.v 5) (.slice va ol.length vc) ((Y1.l 5).map nL) w3 w'->∃P' Y',Sep P' w'/\P' (0,0)=I2 yb Y'/\I9 P' Y'/\bA P P' (fun q=>8<=q.1)/\(Y'.ps=Y.ps/\Y'.psv=Y.psv)/\(∀j,(Y'.l j).length<=(Y.l j).length+2*ol.length+1)/\Stp P w P' w'):=hid fun fb w3 w' hB yc xp hb=>by
    have qt:=hS.swap (8,0) (dJ 90 2 (.slice va ol.length vc) ol.length) ⟨_,xb⟩ (fun b hb=>by rw [yh];exact hb);obtain⟨nb,vs,zw,hl,yi,yv⟩:=qt.bookO (by rw [A3.put_ne _ R3];exact xl) (A3.put_same _ _ _) R3 hB yc xp hb (5+2,(Y1.l 5).length);have vn:I9 (P1.put (8,0) (dJ 90 2 (.slice va ol.length vc) ol.length)) Y1:=⟨xo.1,fun j i nb h1 h5 hq=>by rw [A3.put_ne _ (by intro e;simp only [Prod.mk.injEq] at e;omega)];exact xo.2 j i nb h1 h5 hq⟩
    refine⟨_,Y1.upd 5 zw nb,yi,zQ _ R3,vn.upd R3 R3 R3 R3 ⟨fun e=>by omega,fun e=>by omega,fun e=>by omega,fun _=>⟨vs,fb,hl,rfl⟩⟩,fun q hq hnq=>?_,⟨xc.ps,xc.psv⟩,fun j=>?_,(yr.trans (Stp.swap (8,0) _ (fun b hb=>by rw [yh];exact hb))).trans yv⟩
    ·rw [iJ R3 R3 q hq (fun e=>hnq (by rw [e];decide)),A3.put_ne _ (fun e=>hnq (by rw [e];decide)),xk q hq (fun e=>hnq R4)]
    ·have xu:=fG Y1 5 zw nb
     by_cases e4:j=5
     ·subst e4
      rw[xu.lj,xc.l 5 R3];omega
     ·rw [xu.l j e4]
      by_cases e3:j=3
      ·subst e3;rw [xc.lj];omega
      ·rw [xc.l j e3];omega
   have zf:Hid (∀U,Calls prog 53 #[.int .i64 ((Y1.l 5).length:Int)] U fun e w'=>e=.returned (.agg #[.int .u8 9,.int .i64 (-7070 - ((Y1.l 5).length:Int))])/\Below U.heap.size U w'):=hid fun U=>tE _ U R4
   have zi:=hid xb;have yz:=hid ha;clear hS xl xo xk xe xc xb ha xm yh H0 H8 qi yq;generalize (Y1.v 5)=av at *
   generalize (Y1.l 5).map nL=al at *
   generalize (Y1.l 5).length=na at *
   generalize ol.flatMap ObR.cells=xs at *
   obtain⟨w1,qo⟩:∃w1,w1=wr:=⟨_,rfl⟩
   subst qo;have qf:ol.length<=1000000:=by omega
   clear hn hlt hi yx yr;generalize hnn:ol.length=n at *
   have hn:=qf;have yo:=hid hnn;clear hnn qf;obtain⟨aa,ye,vd,_⟩:=B4 yz.out;subst vd;have vj:¬(n:Int) < (n:Int):=by omega
   go_wp2_with (go_at_call 53;refine (zf.out _).mono ?_;rintro e w2 ⟨rfl,yg⟩)
   have xg:Below w1.heap.size w1 (w2.alloc (Obj.cells #[.int .u8 9,.int .i64 (-7070 - (na:Int))] 92)):=Below.alloc yg yg.size _;have yc:(w2.alloc (Obj.cells #[.int .u8 9,.int .i64 (-7070 - (na:Int))] 92)).heap[w2.heap.size]?=some (.cells #[.int .u8 9,.int .i64 (-7070 - (na:Int))] 92 (0,0)):=heap_alloc_new w2 _;have xp:w1.heap.size<=w2.heap.size:=yg.size;have xi:(w2.alloc (Obj.cells #[.int .u8 9,.int .i64 (-7070 - (na:Int))] 92)).heap.size=w2.heap.size+1:=by simp
   generalize (w2.alloc (Obj.cells #[.int .u8 9,.int .i64 (-7070 - (na:Int))] 92))=w3 at *
   obtain⟨fb,xw⟩:∃fb,fb=w2.heap.size:=⟨_,rfl⟩
   rw[<- xw] at yc xp xi ⊢;have xy:Hid (∀w',aZ 90 2 74 88 yb 5 na (zob fb) (.slice aa na ye) (.slice va n vc) al w3 w'->∃P' Y',Sep P' w'/\P' (0,0)=I2 yb Y'/\I9 P' Y'/\bA P P' (fun q=>8<=q.1)/\(Y'.ps=Y.ps/\Y'.psv=Y.psv)/\(∀j,(Y'.l j).length<=(Y.l j).length+2*n+1)/\Stp P w P' w'):=hid fun w' hb=>ya.out fb w3 w' xg yc xp hb
   have hy:yb < w3.heap.size:=L0a za xg.size;have hc:=keep xg za qk;have hz:=C2 xg za zg;have HV:=hid (H6 zi.out xg);have HA:=hid (H6 yz.out xg);clear xw yg qk zg zi yz ya zf yc xp;have q0:(w3.alloc (Obj.cells #[.int .u8 9,.slice (some ⟨fb,0,none⟩) 1 1] 90)).cell? ⟨w3.heap.size,0,none⟩=some (.int .u8 9):=by go_simp
   have q1:(w3.alloc (Obj.cells #[.int .u8 9,.slice (some ⟨fb,0,none⟩) 1 1] 90)).cell? ⟨w3.heap.size,1,none⟩=some (.slice (some ⟨fb,0,none⟩) 1 1):=by go_simp
   have yk:Below w3.heap.size w3 (w3.alloc (Obj.cells #[.int .u8 9,.slice (some ⟨fb,0,none⟩) 1 1] 90)):=Below.alloc (Below.refl _ _) (L1c _) _;have zp:=H6 HV.out yk;have ze:(w3.alloc (Obj.cells #[.int .u8 9,.slice (some ⟨fb,0,none⟩) 1 1] 90)).heap.size=w3.heap.size+1:=by simp
   have yj:=hid yk;have ql:=hid xi;clear xi xg;generalize (w3.alloc (Obj.cells #[.int .u8 9,.slice (some ⟨fb,0,none⟩) 1 1] 90))=V at *
   obtain⟨zb,qc⟩:∃zb,zb=w3.heap.size:=⟨_,rfl⟩
   rw[<- qc] at q0 q1 ze;have xv:fb+1=zb:=by have:=ql.out;omega
   rw[xv];have xd:zb < V.heap.size:=by omega
   have xj:(Value.slice va n vc).ownBlock≠some zb:=fun e=>by have:=(HV.out.lt zb e).2;omega
   have S0:Hid (Stt V V 0 90 2 (.slice va n vc) n xs [.int .u8 9,.slice (some ⟨fb,0,none⟩) 1 1] [] [(.slice va n vc,n)]):=hid (Stt.start zp);have ve:([.int .u8 9,.slice (some ⟨fb,0,none⟩) 1 1]:List Value).length=2:=rfl;have xq:Hid (∀u,u∈([.int .u8 9,.slice (some ⟨fb,0,none⟩) 1 1]:List Value)->u.oneCell'=true):=hid fun u hu=>by simp at hu;rcases hu with rfl | rfl <;> rfl
   have HT:Hid (TI 74 90 2):=hid ⟨i3,_,_,underlying74,HI.out.1,HI.out.2.1,HI.out.2.2.1,HI.out.2.2.2,rfl,by decide,by decide⟩;have HC:Hid (∀u lits res,Stt V u 0 90 2 (.slice va n vc) n xs [.int .u8 9,.slice (some ⟨fb,0,none⟩) 1 1] lits res->u.cell? ⟨zb,0,none⟩=some (.int .u8 9)/\u.cell? ⟨zb,1,none⟩=some (.slice (some ⟨fb,0,none⟩) 1 1)):=hid fun u lits res h=>⟨h.z xd xj q0,h.z xd xj q1⟩
   have yd:Hid (∀u lits res (o:Obj),Stt V u 0 90 2 (.slice va n vc) n xs [.int .u8 9,.slice (some ⟨fb,0,none⟩) 1 1] lits res->(u.alloc o).cell? ⟨zb,0,none⟩=some (.int .u8 9)/\(u.alloc o).cell? ⟨zb,1,none⟩=some (.slice (some ⟨fb,0,none⟩) 1 1)):=hid fun u lits res o h=>⟨(L0b (a:=⟨zb,0,none⟩) (Below.heap_alloc _ _ _ (L0a xd h.size))).trans (h.z xd xj q0),(L0b (a:=⟨zb,1,none⟩) (Below.heap_alloc _ _ _ (L0a xd h.size))).trans (h.z xd xj q1)⟩
   have HQ:Hid (V.cell? ⟨zb,0,none⟩=some (.int .u8 9)/\V.cell? ⟨zb,1,none⟩=some (.slice (some ⟨fb,0,none⟩) 1 1)):=hid ⟨q0,q1⟩;clear q0 q1 zp yk ze qc xv;refine wp_region_held_drew (S:=fun u=>u.cell? ⟨zb,0,none⟩=some (.int .u8 9)/\u.cell? ⟨zb,1,none⟩=some (.slice (some ⟨fb,0,none⟩) 1 1)) Q7 (HC.out _ _ _ S0.out.drew) (fun hHeld=>?_);have zx:=hid S0.out.drew;generalize V.drew=U at *
   refine TW 0 ⟨some 30,.move (.tmp 1),74,"book.go:112",#[],none⟩ ?_
   refine TW 1 ⟨some 31,.move (.tmp 1),74,"book.go:112",#[],none⟩ ?_
   refine TW 2 ⟨some 32,.load 90 (.tmp 5),90,"book.go:112",#[],none⟩ ?_
   refine TW 5 ⟨some 35,.move (.tmp 1),74,"book.go:112",#[],none⟩ ?_
   refine TW 6 ⟨some 36,.load 90 (.tmp 5),90,"book.go:112",#[],none⟩ ?_
   refine TW 7 ⟨some 37,.load 90 (.tmp 5),90,"book.go:112",#[],none⟩ ?_
   refine TW 10 ⟨some 40,.move (.tmp 1),74,"book.go:112",#[],none⟩ ?_
   refine TW 11 ⟨some 41,.load 90 (.tmp 5),90,"book.go:112",#[],none⟩ ?_
   refine TW 12 ⟨some 42,.load 90 (.tmp 5),90,"book.go:112",#[],none⟩ ?_
   refine TW 13 ⟨some 43,.load 90 (.tmp 5),90,"book.go:112",#[],none⟩ ?_
   clear hHeld
   refine a2b 30 5 6 88 "book.go:112" (fun u lits res h => ⟨HC.out _ _ _ h, fun o => yd.out _ _ _ o h⟩) HT.out hn ve xq.out zx.out ?_
   intro x1 x2 x3 a1 a2 a3 c1 c2 c3 lits ww hS;simp only[Act.put,Nat.reduceAdd,T1,T2,T3];clear xq HT HC yd zx S0;have HS:=hid hS;have xi:=hS.size;obtain⟨vs,nb,W4,qh,zu,SW,qp,yt,zl,yn,zm,vb,zn,qr,yu,yp⟩:=uX (s:=74) (zv:=zob fb) hS;rw[<- qh,<- zu];clear hS qh zu;go_wp2_with fail;go_loopw [7] (fun vi wr=>∃k:Nat,k<=4/\vi=.int .i64 k/\Wr W4 wr 90 2 (zob fb) vs k 0) (fun vi _=>4 - (intOf vi).toNat)
   case atStart=>exact ⟨0,by omega,rfl,SW.out⟩
   case round =>
    obtain⟨k,hk,rfl,xa⟩:=hrel;by_cases hlt:k < 4
    ·obtain ⟨p,hp⟩:∃p,vs[k]?=some p:=⟨_,L1b R4⟩
     have zc:(k:Int) < 4:=by omega
     have yw:=hid xa;have xr:=L2a hp;obtain⟨pa,pc,qy,vv,_⟩:=(xa.has p xr).form;have vy:=vb.out p xr;have xf:Hid (∀u:World,(∀b,(∀p,p∈vs->p.1.ownBlock≠some b)->u.heap[b]?=W4.heap[b]?)->u.cell? ⟨nb,k,none⟩=some p.1/\nb < u.heap.size):=hid fun u hu=>by
      have h1:=(hu nb zl.out).trans yt.out;refine⟨?_,(L2b.1 h1).1⟩;simp only[World.cell?,h1];simp[List.getElem?_map,hp]
     clear xa;go_wp2_with fail;go_loopw [8] (fun vi wr=>∃i:Nat,i<=p.2/\vi=.int .i64 i/\Wr W4 wr 90 2 (zob fb) vs k (i*2)) (fun vi _=>p.2 - (intOf vi).toNat)
     case atStart=>exact ⟨0,by omega,rfl,by rw [Nat.zero_mul];exact yw.out⟩
     case round =>
      obtain⟨i,hi,rfl,xa⟩:=hrel;have cn:=(xf.out wr xa.keep).1;have qm:=(xf.out wr xa.keep).2;have zs:=hid xa;by_cases hli:i < p.2
      ·obtain ⟨vx,qv,yy,vm,vf⟩:=(xa.has p xr).form
       obtain⟨b,rfl,yf,vp,xz,ys⟩:=vf R4;have qq:b≠nb:=fun e=>zl.out p xr (by rw [yf,e])
       have xt:b≠zb:=fun e=>yn.out zb xd xj p xr (by rw [yf,e])
       have xn:=(xa.keep zb (yn.out zb xd xj)).trans (zm.out zb xd xj);have d0:wr.cell? ⟨zb,0,none⟩=some (.int .u8 9):=(L0b (a:=⟨zb,0,none⟩) xn).trans HQ.out.1;have d1:wr.cell? ⟨zb,1,none⟩=some (.slice (some ⟨fb,0,none⟩) 1 1):=(L0b (a:=⟨zb,1,none⟩) xn).trans HQ.out.2;obtain⟨g0,qe⟩:=ys (i*2) R4;have qn:=xz (i*2);obtain⟨g1,zz⟩:=ys (i*2+1) R4
       have vg:=xz (i*2+1);rw[yy] at cn;have vo:(i:Int) < (p.2:Int):=by omega
       clear xa xz ys;go_wp2_with fail;refine wp_region_held_drew (S:=fun u=>u.cell? ⟨nb,k,none⟩=some (.slice (some ⟨b,0,none⟩) p.2 qv)/\u.cell? ⟨zb,0,none⟩=some (.int .u8 9)/\u.cell? ⟨zb,1,none⟩=some (.slice (some ⟨fb,0,none⟩) 1 1)) Q7 ⟨cn,d0,d1⟩ (fun hHeld=>?_)
       refine TW 0 ⟨some 62,.move (.tmp 6),88,"book.go:115",#[],none⟩ ?_
       refine TW 1 ⟨some 63,.move (.tmp 7),3,"book.go:115",#[],none⟩ ?_
       refine TW 2 ⟨some 64,.indexAddr 88 (.tmp 62) (.tmp 63),0,"book.go:115",#[⟨0,.data⟩,⟨1,.data⟩],none⟩ ?_
       refine TW 3 ⟨some 65,.load 74 (.tmp 64),74,"book.go:115",#[⟨2,.data⟩],none⟩ ?_
       refine TW 4 ⟨some 66,.move (.tmp 8),3,"book.go:115",#[],none⟩ ?_
       refine TW 5 ⟨some 67,.load 90 (.tmp 5),90,"book.go:115",#[],none⟩ ?_
       refine TW 6 ⟨some 68,.indexAddr 74 (.tmp 65) (.tmp 66),0,"book.go:115",#[⟨3,.data⟩,⟨4,.data⟩,⟨0,.phase⟩,⟨1,.phase⟩,⟨2,.phase⟩,⟨3,.phase⟩,⟨4,.phase⟩,⟨5,.phase⟩],none⟩ ?_
       clear hHeld
       refine TO 7 ⟨none,.store 90 (.tmp 68) (.tmp 67),0,"book.go:115",#[⟨6,.data⟩,⟨5,.data⟩,⟨0,.phase⟩,⟨1,.phase⟩,⟨2,.phase⟩,⟨3,.phase⟩,⟨4,.phase⟩,⟨5,.phase⟩],none⟩ fun K hK => ?_
       go_simp
       refine TG hK ⟨show ((wr.setCell ⟨b,i*2,none⟩ (.int .u8 9)).setCell ⟨b,i*2+1,none⟩ (.slice (some ⟨fb,0,none⟩) 1 1)).cell? ⟨nb,k,none⟩=_ from by (repeat rw [World.cell?_setCell_far _ _ _ _ (show b≠nb from qq)]);exact cn,show ((wr.setCell ⟨b,i*2,none⟩ (.int .u8 9)).setCell ⟨b,i*2+1,none⟩ (.slice (some ⟨fb,0,none⟩) 1 1)).cell? ⟨zb,0,none⟩=_ from by (repeat rw [World.cell?_setCell_far _ _ _ _ (show b≠zb from xt)]);exact d0,show ((wr.setCell ⟨b,i*2,none⟩ (.int .u8 9)).setCell ⟨b,i*2+1,none⟩ (.slice (some ⟨fb,0,none⟩) 1 1)).cell? ⟨zb,1,none⟩=_ from by (repeat rw [World.cell?_setCell_far _ _ _ _ (show b≠zb from xt)]);exact d1⟩ fun hHeld=>?_
       clear hK K;clear hHeld;refine wpAnyH_done Q7 ?_ _;have HX:Hid (Wr W4 ((wr.setCell ⟨b,i*2,none⟩ (.int .u8 9)).setCell ⟨b,i*2+1,none⟩ (.slice (some ⟨fb,0,none⟩) 1 1)).drew 90 2 (zob fb) vs k ((i+1)*2)):=hid (by
        have z0:(zob fb) (i*2)=.int .u8 9:=by unfold zob;rw [if_pos R4]
        have z1:(zob fb) (i*2+1)=.slice (some ⟨fb,0,none⟩) 1 1:=by unfold zob;rw [if_neg R4]
        have s0:=zs.out;have s1:=s0.next hp yf ⟨g0,qe⟩;rw[z0] at s1;have s2:=s1.next hp yf ⟨g1,by rw [World.cell?_setCell_other _ _ _ _ R5];exact zz⟩;rw[z1] at s2;rw[show (i+1)*2=i*2+1+1 by omega];exact s2.drew)
       generalize ((wr.setCell ⟨b,i*2,none⟩ (.int .u8 9)).setCell ⟨b,i*2+1,none⟩ (.slice (some ⟨fb,0,none⟩) 1 1)).drew=Y at *
       clear cn d0 d1 qe qn zz vg;go_wp2_with fail;go_roundw
       case rel=>exact ⟨i+1,by omega,by go_num,HX.out⟩
       case measure=>simp [intOf];omega
      ·obtain rfl:i=p.2:=by omega
       have yx:¬(p.2:Int) < (p.2:Int):=by omega
       rw[qy] at cn;clear xa;go_wp2_with fail;go_roundw
       case rel=>exact ⟨k+1,by omega,by go_num,Wr.done zs.out hp⟩
       case measure=>simp [intOf];omega
    ·obtain rfl:k=4:=by omega
     have yw:=hid xa;have ym:∀b,b < w3.heap.size->(Value.slice va n vc).ownBlock≠some b->wr.heap[b]?=w3.heap[b]?:=fun b hb hn=>by
      have zq:b < V.heap.size:=by have:=yj.out.size;omega
      rw[xa.keep b (yn.out b zq hn),zm.out b zq hn];exact yj.out.block b hb
     have yl:=ym yb hy zk;have y1:wr.cell? ⟨yb,5,none⟩=some (.slice aa na ye):=(L0b (a:=⟨yb,5,none⟩) yl).trans hc;have y2:wr.frozen? ⟨yb,5,none⟩=false:=(L0c (a:=⟨yb,5,none⟩) yl).trans hz;have vz:yb < wr.heap.size:=by have:=xa.size;have:=yu.out;have:=yj.out.size;omega
     have vr:Hid (wr.ownsRow 0 88 1 (.slice aa na ye) na al):=hid (A7 HA.out fun b hb=>ym b (HA.out.lt b hb).2 fun e=>H5 HA.out HV.out R3 b hb e);have qs:=hid (HS.out.rebase yj.out HV.out);have yx:¬(4:Int) < 4:=by decide
     clear xa yl ym;go_wp2_with (at_builtin;go_must (refine B0 _ rfl (.tmp 73) (.tmp 75) 33 rfl 0 88 i9 _ 1 24 underlying33 HN.out.1 HN.out.2.1 HN.out.2.2.1 HN.out.2.2.2 rfl R3 (.slice aa na ye) na al rfl (vr.out.alloc _) (some ⟨wr.heap.size,0,none⟩) 1 1 [.slice (some ⟨nb,0,none⟩) 4 4] rfl rfl (fun _=>⟨_,rfl,World.news_of_block (cs:=#[.slice (some ⟨nb,0,none⟩) 4 4]) (t:=88) (fr:=(0,0)) (B1 (by first | rfl | simp))⟩) (by intro u hu;simp at hu;subst hu;rfl) Q5 R4 R5 ?_))
     intro v5 w5 hown5 hgrow5 hat5;obtain⟨a5,c5,vt,_⟩:=B4 hown5;subst vt;obtain⟨e1,e2,e3,e4,e5,e6,e7⟩:=hY (te:=74) (zv:=zob fb) qs.out HV.out qr.out (by rw [<- zn.out,yp.out];exact yw.out) HA.out R3 hy vl zk hgrow5 hown5 (fun g hg=>by rcases hat5 g hg with e | e;exact Or.inl e;exact Or.inr (by rw [e];simp)) ⟨_,hc⟩;rw[hc] at e1;rw[hz] at e2;rw[<- zn.out] at e4 e7;have HE:=hid (And.intro e4 (And.intro e5 (And.intro e6 e7)))
     clear hown5 hgrow5 hat5 e4 e5 e6 e7;go_wp2_with fail;go_end0
     have xx:=xy.out _ ⟨nb,vs,_,qp,HE.out.1,HE.out.2.1,HE.out.2.2.1,HE.out.2.2.2⟩;rw[<- yo.out] at xx;exact⟨rfl,xx⟩
end
section
variable {M N cb i xb yb:Nat} {P:A3} {W w:World} {Y:PlR} {l:List Ob} {w0:N4}
theorem qG (h:Lw w0 P w yb Y N M) (hi:Y.ps[i]?=some (xb,cb)) (hN:N<=10000000000) (hM:M<=900000000) :
  Calls prog 10 #[.pointer (some ⟨yb,0,none⟩),.agg #[.pointer (some ⟨xb,0,none⟩),.pointer (some ⟨cb,0,none⟩)],.int .i64 5] w fun e w'=>e=.returned (.bool true)/\∃P2 Y2,Lw w0 P2 w' yb Y2 N (M+100)/\(Y2.ps=Y.ps/\Y2.psv=Y.psv):=by
 obtain⟨l,hl,xn,hs⟩:=tN h hi hN;have HS:=hid hs;have HR:=hid xn;have HL:=hid hl;have HM:=hid hM;clear hs xn h hi hl hM;go_enter func10,ntmps10;go_wp2_with (first | (go_at_call 25;refine (HS.out _ P8).mono ?_;rintro e w1 ⟨va,vc,fl,rfl,xr,xe,xp,xl,P1,xw,xo,xs⟩;have xa:=hid xw;have xy:=hid xo;have xz:=hid xs;have yd:=hid xp;have yc:=hid xl;have xg:=hid xr;have ya:Hid (Below w.heap.size w w1):=hid ((by repeat (first | exact Below.refl _ _ | refine Below.alloc ?_ Q2 _):Below w.heap.size w _).trans (xe.mono R5));have c1:w1.cell? ⟨w.heap.size,1,none⟩=some (.pointer (some ⟨cb,0,none⟩)):=keep xe R5 Q9;have ye:w.heap.size < w1.heap.size:=(by have:=xe.size;simp at this;omega);clear xw xo xs xp xl xr xe) | (go_at_call 27;refine (HR.out _ ya.out).mono ?_;rintro e w2 ⟨ra,rc,rfl,xd,xh⟩;have xi:=hid xd;have xk:=hid xh;have yg:=xh.size;clear xd xh) | (go_at_call 26;refine (kO (yd.out.later xk.out) xi.out (by have:=HL.out.1;omega) (fun f hf=>by have:=HL.out.2 f hf;omega)).mono ?_;rintro e w3 ⟨rfl,xj⟩;have xx:=hid xj;have yf:=xj.size;clear xj) | (go_at_call 28;rw [<- xg.out];refine (vV ((xa.out.below xk.out).below xx.out).sep xa.out.p0 xa.out.law xy.out xz.out yc.out (by have:=HL.out.1;rw [xg.out];omega) (fun j=>by have:=xa.out.len j;have:=HM.out;omega)).mono ?_;rintro e w4 ⟨rfl,P2,Y2,xv,xu,xm,xt,xf,xc,xq⟩;have HW:Hid (Lw w0 P2 w4 yb Y2 N (M+100)/\(Y2.ps=Y.ps/\Y2.psv=Y.psv)):=hid ⟨((xa.out.below xk.out).below xx.out).book xv xu xm xt (fun q hq=>hq) xf.1 (fun j=>by have:=xc j;have:=xa.out.len j;have:=HL.out.1;have:=xg.out;omega) R4 xq,xf⟩;clear xv xu xm xt xf xc xq))
 go_ret;exact⟨rfl,P2,Y2,HW.out⟩
theorem ObV.later {U:World} {a:Option Addr} (h:ObV W a l) (hB:Below W.heap.size W U):ObV U a l:=fun h0=>by
 obtain⟨b,e,hb,hc⟩:=h h0;refine⟨b,e,L0a hb hB.size,fun i f hf=>?_⟩;obtain⟨fa,fc,h1,h2,h3⟩:=hc i f hf;exact⟨fa,fc,keep hB hb h1,keep hB hb h2,h3.here hB⟩
theorem zN {B n:Nat} {v:Value} {L:List ObR} (h:W.ownsRow B 90 2 v n (L.flatMap ObR.cells)) (hl:l.length=n) (hk:∀(k:Nat) (o:Ob),l[k]?=some o->∃q:ObR,L[k]?=some q/\q.kind=o.1/\W.ownsRow B 92 2 q.fv o.2.length (A5 o.2)):∃a c,v=.slice a n c/\ObV W a l:=by
 rcases id h.2 with ⟨rfl,h0⟩ | ⟨g,xb,xd,rfl,_,hg,h3,h4,h5,h6⟩
 ·exact ⟨none,0,by rw [h0],fun hp=>by omega⟩
 ·refine ⟨_,xb,rfl,fun _=>⟨g,rfl,(L2b.1 hg).1,fun i f hf=>?_⟩⟩
  obtain⟨q,hq,e1,h1⟩:=hk i f hf;obtain⟨la,lc,xc,_,xa⟩:=S8 h1;have xe:=(L1a.1 hf).1;have hj:∀j u,j < 2->q.cells[j]?=some u->W.cell? ⟨g,i*2+j,none⟩=some u:=fun j u hj hu=>by
   rw[h.cellAt _ R4,D6 ObR.cells_len hq hj];exact hu
  refine⟨la,lc,?_,?_,xa⟩
  ·have:=hj 0 _ R3 rfl;rw [e1] at this;exact this
  ·have:=hj 1 _ R3 rfl;rw [xc] at this;exact this
def tH (ol:List ObR) (m:Nat):D5:=match ol[m]? with
 | some o=>dJ 92 2 o.fv o.fl.length
 | none=>D5.none
def obQ (v:Value) (ol:List ObR):A3:=fun i=>if i.1=9 then tH ol i.2 else if i=(8,0) then mU 90 2 v ol.length (ol.flatMap ObR.cells) else D5.none
theorem wT {ol:List ObR} {m b:Nat} (h:(tH ol m).B b):∃o,ol[m]?=some o/\o.fv.ownBlock=some b:=by
 unfold tH at h;split at h
 ·rename_i o ho
  exact⟨o,ho,h⟩
 ·exact h.elim
theorem a1u {g:PgR} {R:RfR} {t:McA} (h:RV g R t) {k:Nat} (hk:k < t.obs.length):t.obs[k]?=some (iW (R.ths.map ThR.slot) (R.ths.map ThR.abs) k):=by
 have e:=h.v.heap;rw[<- e];unfold a2B;rw[List.getElem?_map,List.getElem?_range hk,Option.map_some];congr 1
 unfold iW
 cases ea:atT (R.ths.map ThR.slot) 0 k with
 | none=>rfl
 | some i =>
  simp only;obtain⟨_,hx⟩:=gY _ _ _ _ ea;rw[Nat.sub_zero] at hx;show _=(((R.ths.map ThR.abs).getD i (0,[])).1,((R.ths.map ThR.abs).getD i (0,[])).2.map (J1 (R.ths.map ThR.slot)));show (((R.ths.map ThR.abs).getD i (0,[])).1,((R.ths.map ThR.abs).getD i (0,[])).2.map (ren (sig (R.ths.map ThR.slot))))=_;congr 1
  refine List.map_congr_left fun v hv=>(jV ?_).symm
  cases eo:(R.ths.map ThR.abs)[i]? with
  | none=>rw [List.getD_eq_getElem?_getD,eo] at hv;cases hv
  | some o =>
   rw[List.getD_eq_getElem?_getD,eo] at hv;exact h.v.orefs i o eo ⟨_,hx,by omega⟩ v hv
theorem a0T (h:Lw w0 P w yb Y N M) (hi:Y.ps[i]?=some (xb,cb)) (hN:N<=10000000000) :
  ∃l:List Ob,(l.length<=40/\∀o,o∈l->o.2.length<=12) /\
   (∀V,Below w.heap.size w V->Calls prog 31 #[.pointer (some ⟨cb,0,none⟩)] V fun e w2=>∃ra rc,e=.returned (.slice ra l.length rc)/\ObV w2 ra l/\Below V.heap.size V w2) /\
   ∀U,Below w.heap.size w U->Calls prog 29 #[.pointer (some ⟨xb,0,none⟩)] U fun e w1=>∃va vc,∃ol:List ObR,e=.returned (.slice va l.length vc)/\ol.length=l.length/\Below U.heap.size U w1/\ObV w1 va l/\(∀o,o∈ol->(∃a c,o.fv=.slice a o.fl.length c)/\o.fl.length<=1000) /\
    ∃P1,Lw w0 P1 w1 yb Y N M/\P1 (8,0)=mU 90 2 (.slice va ol.length vc) ol.length (ol.flatMap ObR.cells)/\gS P1 ol 0:=by
 obtain⟨ox,gx,RX,oc,gc,RC,t,h1,h2,h3,h4,h5,h6,h7,h8⟩:=(h.pair i (xb,cb) hi).ex;have e1:RX.obs.map ObR.abs=t.obs:=by rw [<- h3.abs];rfl
 have xk:∀o,o∈t.obs->o.2.length<=12:=fun o ho=>(h4.obs o ho).len
 have xj:RX.obs.length=t.obs.length:=by rw [<- e1,List.length_map]
 have hd:=h4.cap;refine⟨t.obs,⟨hd.2,xk⟩,fun V hV=>?_,fun U hU=>?_⟩
 ·have xp:=h.below hV
  have hR:A8 V oc cb gc RC:=by have:=xp.sep.F (2,i);rw [h2] at this;exact this
  have xe:=h7.cap;refine (a0Y hR (h7.bd (h6.pgOk h5) R4) h7.rin R4).mono ?_;rintro e w2 ⟨lb,rfl,L,hL,xa,hk,_,hb⟩;obtain⟨ra,rc,e,hv⟩:=zN (l:=t.obs) xa xe.symm (fun k o ho=>by
   have xh:=(L1a.1 ho).1;rw[a1u h7 xh] at ho;obtain rfl:=Option.some.inj ho;exact hk k R4)
  rw[e,xe];exact⟨ra,rc,rfl,hv,hb⟩
 ·have xn:=h.below hU
  have hM:A4 U ox xb gx RX:=by have:=xn.sep.F (1,i);rw [h1] at this;exact this
  have xo:∀o,o∈RX.obs->o.fl.length<=12:=fun o ho=>xk o.abs (by rw [<- e1];exact List.mem_map.2 ⟨o,ho,rfl⟩)
  refine (a1S hM R4 R4 (fun f hf=>by have:=xo f hf;omega)).mono ?_;rintro e w1 ⟨v,ol,rfl,xa,xm,hk,xg,hb⟩;obtain⟨va,vc,rfl,hv⟩:=zN (l:=t.obs) xa xj.symm (fun k o ho=>by
   rw[<- e1,List.getElem?_map] at ho
   cases ep:RX.obs[k]? with
   | none=>rw [ep] at ho;cases ho
   | some p =>
    rw[ep] at ho;obtain rfl:=Option.some.inj ho;obtain⟨fv,q1,q2⟩:=hk k p ep;exact⟨_,q1,rfl,q2⟩)
  have xc:∀(k:Nat) (o:ObR),ol[k]?=some o->k < RX.obs.length/\o.fl.length<=12/\w1.ownsRow U.heap.size 92 2 o.fv o.fl.length (A5 o.fl):=fun k o ho=>by
   have xh:k < RX.obs.length:=by rw [<- xm];exact (L1a.1 ho).1
   obtain⟨fv,q1,q2⟩:=hk k RX.obs[k] (L1b xh);have hm:=xo RX.obs[k] (List.getElem_mem xh);rw[ho] at q1;obtain rfl:=Option.some.inj q1;exact⟨xh,hm,q2⟩
  have xf:∀m b,(tH ol m).B b->U.heap.size<=b/\∀b',(Value.slice va RX.obs.length vc).ownBlock=some b'->b'≠b:=fun m b hB=>by
   obtain⟨o,ho,hq⟩:=wT hB;obtain⟨_,_,o1⟩:=xc _ o ho;exact⟨(o1.lt b hq).1,fun b' hb' e=>H5 xa o1 R3 b' hb' (by rw [e];exact hq)⟩
  have xd:ol.length=t.obs.length:=xm.trans xj;rw[xj] at xa xf ⊢;rw[<- xd] at xa xf;refine⟨va,vc,ol,rfl,xd,hb,hv,fun f hf=>?_,loose P (obQ (.slice va ol.length vc) ol),?_,?_,?_⟩
  ·obtain ⟨k,xr⟩:=List.mem_iff_getElem?.1 hf
   obtain⟨_,a1,o1⟩:=xc k f xr;obtain⟨x,y,hx,_⟩:=S8 o1;exact⟨⟨x,y,hx⟩,by omega⟩
  ·have sp:∀i:Nat × Nat,(i.1=9/\obQ (.slice va ol.length vc) ol i=tH ol i.2)\/(i=(8,0)/\obQ (.slice va ol.length vc) ol i=mU 90 2 (.slice va ol.length vc) ol.length (ol.flatMap ObR.cells))\/obQ (.slice va ol.length vc) ol i=D5.none:=fun i=>by
    unfold obQ;by_cases e:i.1=9
    ·exact Or.inl ⟨e,if_pos e⟩
    ·by_cases e':i=(8,0)
     ·exact Or.inr (Or.inl ⟨e',by rw [if_neg e,if_pos e']⟩)
     ·exact Or.inr (Or.inr (by rw [if_neg e,if_neg e']))
   refine xn.loose hb (fun i _=>?_) (fun i b _ hB=>?_) (fun i j b _ _ hB hB'=>?_)
   ·rcases sp i with ⟨_,e⟩ | ⟨_,e⟩ | e
    ·rw [e]
     unfold tH;split
     ·rename_i o ho
      obtain⟨_,_,o1⟩:=xc _ o ho;exact⟨_,E2 o1 (Nat.zero_le _)⟩
     ·trivial
    ·rw [e];exact E2 xa (Nat.zero_le _)
    ·rw [e];trivial
   ·rcases sp i with ⟨_,e⟩ | ⟨_,e⟩ | e
    ·rw [e] at hB;exact (xf _ b hB).1
    ·rw [e] at hB;exact (xa.lt b hB).1
    ·rw [e] at hB;exact hB.elim
   ·rcases sp i with ⟨ei,e⟩ | ⟨ei,e⟩ | e
    ·rw [e] at hB
     rcases sp j with ⟨ej,e'⟩ | ⟨ej,e'⟩ | e'
     ·rw [e'] at hB'
      obtain⟨f,hf,ho⟩:=wT hB;obtain⟨f',xi,xl⟩:=wT hB';have l1:=(xc _ f hf).1;have l2:=(xc _ f' xi).1;have xq:i.2=j.2:=by
       rcases Nat.lt_trichotomy i.2 j.2 with c | c | c
       ·exact (xg _ _ f f' b c l2 hf xi ho xl).elim
       ·exact c
       ·exact (xg _ _ f' f b c l1 xi hf xl ho).elim
      exact Prod.ext (ei.trans ej.symm) xq
     ·rw [e'] at hB';exact ((xf _ b hB).2 b hB' rfl).elim
     ·rw [e'] at hB';exact hB'.elim
    ·rw [e] at hB
     rcases sp j with ⟨ej,e'⟩ | ⟨ej,e'⟩ | e'
     ·rw [e'] at hB';exact ((xf _ b hB').2 b hB rfl).elim
     ·rw [ei,ej]
     ·rw [e'] at hB';exact hB'.elim
    ·rw [e] at hB;exact hB.elim
  ·rw [N6 P _ R3];rfl
  ·intro q o _ ho
   rw[N6 P _ (show 8<=9 by decide)];show tH ol q=_;unfold tH;rw[ho]
theorem wN (h:Lw w0 P w yb Y N M) (hi:Y.ps[i]?=some (xb,cb)) (hN:N<=10000000000) (hM:M<=900000000) (kd:Int) (h3:kd≠3) (h4:kd≠4) (h5:kd≠5) :
  Calls prog 10 #[.pointer (some ⟨yb,0,none⟩),.agg #[.pointer (some ⟨xb,0,none⟩),.pointer (some ⟨cb,0,none⟩)],.int .i64 kd] w fun e w'=>e=.returned (.bool true)/\∃P2 Y2,Lw w0 P2 w' yb Y2 N (M+100)/\(Y2.ps=Y.ps/\Y2.psv=Y.psv):=by
 obtain⟨l,hl,xn,hs⟩:=a0T h hi hN;have HS:=hid hs;have HR:=hid xn;have HL:=hid hl;have HM:=hid hM;clear hs xn h hi hl hM;go_enter func10,ntmps10;go_wp2_with (first | (go_at_call 29;refine (HS.out _ P8).mono ?_;rintro e w1 ⟨va,vc,fl,rfl,xr,xe,xp,xl,P1,xw,xo,xs⟩;have xa:=hid xw;have xy:=hid xo;have xz:=hid xs;have yd:=hid xp;have yc:=hid xl;have xg:=hid xr;have ya:Hid (Below w.heap.size w w1):=hid ((by repeat (first | exact Below.refl _ _ | refine Below.alloc ?_ Q2 _):Below w.heap.size w _).trans (xe.mono R5));have c1:w1.cell? ⟨w.heap.size,1,none⟩=some (.pointer (some ⟨cb,0,none⟩)):=keep xe R5 Q9;have ye:w.heap.size < w1.heap.size:=(by have:=xe.size;simp at this;omega);clear xw xo xs xp xl xr xe) | (go_at_call 31;refine (HR.out _ ya.out).mono ?_;rintro e w2 ⟨ra,rc,rfl,xd,xh⟩;have xi:=hid xd;have xk:=hid xh;have yg:=xh.size;clear xd xh) | (go_at_call 30;refine (jU (yd.out.later xk.out) xi.out (by have:=HL.out.1;omega) (fun f hf=>by have:=HL.out.2 f hf;omega)).mono ?_;rintro e w3 ⟨rfl,xj⟩;have xx:=hid xj;have yf:=xj.size;clear xj) | (go_at_call 32;rw [<- xg.out];refine (tJ ((xa.out.below xk.out).below xx.out).sep xa.out.p0 xa.out.law xy.out xz.out yc.out (by have:=HL.out.1;rw [xg.out];omega) (fun j=>by have:=xa.out.len j;have:=HM.out;omega)).mono ?_;rintro e w4 ⟨rfl,P2,Y2,xv,xu,xm,xt,xf,xc,xq⟩;have HW:Hid (Lw w0 P2 w4 yb Y2 N (M+100)/\(Y2.ps=Y.ps/\Y2.psv=Y.psv)):=hid ⟨((xa.out.below xk.out).below xx.out).book xv xu xm xt (fun q hq=>hq) xf.1 (fun j=>by have:=xc j;have:=xa.out.len j;have:=HL.out.1;have:=xg.out;omega) R4 xq,xf⟩;clear xv xu xm xt xf xc xq))
 go_ret;exact⟨rfl,P2,Y2,HW.out⟩
end
end Go.Proofs.YtbkmgoffiigdbaaGreatDoor
