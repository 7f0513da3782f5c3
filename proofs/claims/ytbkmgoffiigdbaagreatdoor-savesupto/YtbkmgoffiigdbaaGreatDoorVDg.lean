import Derived.Test.YtbkmgoffiigdbaaGreatDoorVDd
import Derived.Test.YtbkmgoffiigdbaaGreatDoorVEi
import Derived.Laws.CopyRow
namespace Go.Proofs.YtbkmgoffiigdbaaGreatDoor
open Go.RowKit Go.Sort Go.Proofs.Tryz
set_option maxHeartbeats 2000000
set_option maxRecDepth 100000
section
variable {Bk C:Nat->Nat} {V wr:World} {fb fc:Nat} {g:PgR}
abbrev FnC:=Int × Int × Value
def iV (x:FnC):List Value:=[J x.1,J x.2.1,x.2.2]
theorem aY (x:FnC):(iV x).length=3:=rfl
structure uU (g:PgR) (w:World) (fb fc i:Nat) (wr:World) (L:List FnC) (Bk C:Nat->Nat):Prop where
 len:L.length=g.n
 row:wr.ownsRow w.heap.size 163 3 (.slice (zA fb) g.n fc) g.n (L.flatMap iV)
 done:∀j,j < i->L[j]?=some ((g.f j).p,(g.f j).l,.slice (some ⟨Bk j,0,none⟩) (g.f j).n (C j))/\Bk j≠fb/\wr.ownsRow w.heap.size 165 2 (.slice (some ⟨Bk j,0,none⟩) (g.f j).n (C j)) (g.f j).n (L1 (g.f j))
 todo:∀j,i<=j->j < g.n->L[j]?=some ((g.f j).p,(g.f j).l,.slice (g.f j).a (g.f j).n (g.f j).c)
 below:L0d w wr
def sC (g:PgR) (w:World) (fb fc i:Nat) (wr:World):Prop:=∃L Bk C,uU g w fb fc i wr L Bk C
def cH (g:PgR) (w:World) (e:Ending) (w':World):Prop :=
 ∃g':PgR,e=.returned (.agg #[.slice g'.a g'.n g'.c])/\I9 w'.heap.size w' g'/\(∀k,g'.blk k->w.heap.size<=k)/\L0d w w' /\
  g'.n=g.n/\∀j,j < g.n->(g'.f j).p=(g.f j).p/\(g'.f j).l=(g.f j).l/\(g'.f j).n=(g.f j).n/\(g'.f j).op=(g.f j).op/\(g'.f j).ar=(g.f j).ar
theorem uU.end {w:World} {rb:Nat} {L:List FnC} (h:uU g V fb fc g.n wr L Bk C) (hV:L0d w V) (hr1:w.heap.size<=rb) (hr2:rb < V.heap.size) (hn:g.n<=1000) (hc:∀j,j < g.n->(g.f j).n<=1000) (e:Ending) (v:Value) (he:e=.returned (.agg #[.slice (zA fb) g.n fc])) :
  cH g w e (wr.setCell ⟨rb,0,none⟩ v):=by
 have xa:∀{ty size b n c:Nat} {xs:List Value},wr.ownsRow V.heap.size ty size (.slice (zA b) n c) n xs->V.heap.size<=b:=by
  intro ty size b n c xs hx;rcases hx.2 with ⟨h0,_⟩ | ⟨g',xd,xf,hv,h1,_⟩
  ·cases h0
  ·cases hv;exact h1
 have hB:L0d w (wr.setCell ⟨rb,0,none⟩ v):=Below.setCell (hV.trans (h.below.mono hV.size)) hr1 _;have xc:wr.heap.size=(wr.setCell ⟨rb,0,none⟩ v).heap.size:=by simp
 refine⟨⟨some ⟨fb,0,none⟩,g.n,fc,fb,0,fun j=>{ g.f j with a:=some ⟨Bk j,0,none⟩,c:=C j,b:=Bk j,o:=0 }⟩,he,⟨by show g.n<=_;omega,fun _=>?_,fun i hi=>⟨by show (g.f i).n<=_;have:=hc i hi;omega,fun _=>?_⟩⟩,?_,hB,rfl,fun j hj=>⟨rfl,rfl,rfl,rfl,rfl⟩⟩
 ·refine ⟨rfl,L0a (W3 h.row).2 (Nat.le_of_eq xc),fun i hi=>?_⟩
  obtain⟨h1,_,_⟩:=h.done i hi;have xb:=ownsRow_setCell_other h.row (a:=⟨rb,0,none⟩) (by have:=xa h.row;simp only [Value.ownBlock,ne_eq,Option.some.injEq];omega) v;have e:∀j,j < 3->(wr.setCell ⟨rb,0,none⟩ v).cell? ⟨fb,i*3+j,none⟩=(iV ((g.f i).p,(g.f i).l,.slice (some ⟨Bk i,0,none⟩) (g.f i).n (C i)))[j]?:=fun j hj=>by
   rw[xb.cellAt _ (by have:i < g.n:=hi;omega)];exact D3 aY h1 hj
  have e0:=e 0 R5;have e1:=e 1 R5;have e2:=e 2 R5;simp only[Nat.zero_add];exact⟨e0,e1,e2⟩
 ·obtain ⟨_,_,h3⟩:=h.done i hi
  refine⟨rfl,L0a (W3 h3).2 (Nat.le_of_eq xc),fun j hj=>?_⟩;have xb:=ownsRow_setCell_other h3 (a:=⟨rb,0,none⟩) (by have:=xa h3;simp only [Value.ownBlock,ne_eq,Option.some.injEq];omega) v;have xe:j < (g.f i).n:=hj;obtain⟨q1,q2⟩:=eB (a:=fun j=>Value.int .i64 ((g.f i).op j)) (b:=fun j=>Value.int .i64 ((g.f i).ar j)) xe;have e0:=xb.cellAt (j*2) R5;have e1:=xb.cellAt (j*2+1) R5
  simp only[Nat.zero_add];exact⟨e0.trans q1,e1.trans q2⟩
 ·have:=hV.size
  rintro k (⟨_,rfl⟩ | ⟨i,hi,_,rfl⟩)
  ·exact L5a this (xa h.row)
  ·exact L5a this (xa (h.done i hi).2.2)
theorem uU.step {w2:World} {i nb nc:Nat} {L:List FnC} (h:uU g V fb fc i wr L Bk C) (hi:i < g.n) (hb:L0d wr w2) (hnew:w2.ownsRow wr.heap.size 165 2 (.slice (zA nb) (g.f i).n nc) (g.f i).n (L1 (g.f i))) :
  sC g V fb fc (i+1) (w2.setCell ⟨fb,i*3+2,none⟩ (.slice (zA nb) (g.f i).n nc)):=by
 have xb:V.heap.size<=fb/\fb < wr.heap.size:=by
  rcases h.row.2 with ⟨h0,_⟩ | ⟨g',xc,xe,hv,h1,hg,_⟩
  ·cases h0
  ·cases hv;exact ⟨h1,(L2b.1 hg).1⟩
 have xf:wr.heap.size<=nb:=by
  rcases hnew.2 with ⟨h0,_⟩ | ⟨g',xc,xe,hv,h1,hg,_⟩
  ·cases h0
  ·cases hv;exact h1
 have xa:w2.ownsRow V.heap.size 163 3 (.slice (zA fb) g.n fc) g.n (L.flatMap iV):=A6 h.row fun b hb'=>by
  obtain rfl:fb=b:=by simpa [Value.ownBlock] using hb'
  exact hb.block _ xb.2
 have xd:=(World.ownsRow.stored xa (i*3+2) (.slice (zA nb) (g.f i).n nc)).1;have hL:=h.todo i (L1c _) hi;rw[<- I7 aY (y:=((g.f i).p,(g.f i).l,.slice (zA nb) (g.f i).n nc)) hL R5 rfl] at xd;refine⟨L.set i ((g.f i).p,(g.f i).l,.slice (zA nb) (g.f i).n nc),fun j=>if j=i then nb else Bk j,fun j=>if j=i then nc else C j,by simpa using h.len,xd,fun j hj=>?_,fun j hj1 hj2=>?_,?_⟩
 ·by_cases e:j=i
  ·subst e
   simp only[if_pos];refine⟨by rw [List.getElem?_set_self (by rw [h.len];exact hi)],by omega,?_⟩;exact ownsRow_setCell_other (E1 hnew (L5a xb.1 (Nat.le_of_lt xb.2))) (by simp only [Value.ownBlock,ne_eq,Option.some.injEq];omega) _
  ·simp only [if_neg e]
   obtain⟨q1,q2,q3⟩:=h.done j R5;refine⟨by rw [List.getElem?_set_ne (Ne.symm e)];exact q1,q2,?_⟩;refine ownsRow_setCell_other (A6 q3 fun b hb'=>?_) (by simpa [Value.ownBlock] using q2) _;obtain rfl:Bk j=b:=by simpa [Value.ownBlock] using hb'
   exact hb.block _ (W3 q3).2
 ·rw [List.getElem?_set_ne R5]
  exact h.todo j R5 hj2
 ·exact Below.setCell (h.below.trans (hb.mono h.below.size)) xb.1 _
theorem mV (g:PgR) (w:World) (hg:I9 w.heap.size w g) (h1:1<=g.n) (h8:g.n<=8) (hc:∀j,j < g.n->1<=(g.f j).n/\(g.f j).n<=60) :
  Calls prog 129 #[.agg #[.slice g.a g.n g.c]] w fun e w'=>cH g w e w':=by
 obtain⟨ha,hb,xa⟩:=hg.2.1 R5;rw[ha];have HG:=hid hg;have HC:=hid hc;have HA:=hid ha;have xq:Hid (∀W,L0d w W->Calls prog 171 #[.slice (some ⟨g.b,g.o,none⟩) g.n g.c] W fun e w'=>dW 163 3 g.n (((List.range g.n).map fun j=>(((g.f j).p,(g.f j).l,.slice (g.f j).a (g.f j).n (g.f j).c):FnC)).flatMap iV) W e w'):=by
  intro W hW;refine yX g.b g.o g.n g.c _ W R5 R5 (by rw [aR aY];simp) (fun j u hj=>?_) (fun u hu=>?_) (L0a hb hW.size)
  ·have xj:j < g.n*3:=by
    have:=(L1a.1 hj).1;rw[aR aY] at this;simpa using this
   have hi:j / 3 < g.n:=by omega
   have xd:=D3 (c:=iV) aY (l:=(List.range g.n).map fun j=>(((g.f j).p,(g.f j).l,.slice (g.f j).a (g.f j).n (g.f j).c):FnC)) (i:=j / 3) (j:=j % 3) (x:=((g.f (j / 3)).p,(g.f (j / 3)).l,.slice (g.f (j / 3)).a (g.f (j / 3)).n (g.f (j / 3)).c)) (by simp [hi]) R5;rw[show j / 3*3+j % 3=j by omega,hj] at xd;obtain⟨q0,q1,q2⟩:=xa (j / 3) hi;rw[hW.cell (p:=⟨g.b,_,none⟩) hb];have yf:j % 3=0\/j % 3=1\/j % 3=2:=by omega
   rcases yf with e | e | e
   ·rw [e] at xd
    rw[show g.o+j=g.o+j / 3*3 by omega,q0];exact xd.symm
   ·rw [e] at xd
    rw[show g.o+j=g.o+j / 3*3+1 by omega,q1];exact xd.symm
   ·rw [e] at xd
    rw[show g.o+j=g.o+j / 3*3+2 by omega,q2];exact xd.symm
  ·simp only [List.mem_flatMap,List.mem_map,iV,List.mem_cons,List.not_mem_nil,or_false] at hu
   obtain⟨x,⟨i,_,rfl⟩,rfl | rfl | rfl⟩:=hu <;> rfl
 clear hg hc ha xa;go_enter func129,ntmps129;go_wp2_with (go_at_call 171;refine (xq.out _ ?_).mono ?_;exact P8;rintro e w2 ⟨fb,fc,rfl,xe,xi⟩)
 generalize hqV:((w.alloc (Obj.cells #[.slice (some ⟨g.b,g.o,none⟩) g.n g.c] 41)).alloc (Obj.cells #[zD] 41))=V at *
 have xp:L0d w V:=by subst hqV;repeat (first | exact L3b _ _ | refine L3a ?_ Q2 _)
 have xw:V.heap.size=w.heap.size+2:=by subst hqV;simp
 have xv:V.cell? ⟨w.heap.size+1,0,none⟩=some zD:=by subst hqV;go_simp
 have xs:V.frozen? ⟨w.heap.size+1,0,none⟩=false:=by subst hqV;go_simp
 clear hqV;have xz:Hid (sC g V fb fc 0 w2):=⟨_,fun _=>0,fun _=>0,by simp,xe,fun j hj=>by omega,fun j _ hj=>by simp [hj],xi⟩;have xk:=hid xp;have xx:=hid xw;have yc:=hid xv;have yb:=hid xs;clear xe xi xp xw xv xs xq;go_loopw [10] (fun v wr=>∃i:Nat,i<=g.n/\v=J i/\sC g V fb fc i wr) (fun v _=>g.n - (intOf v).toNat)
 case atStart=>exact ⟨0,L4c _,rfl,xz.out⟩
 case round =>
  obtain⟨i,hi,rfl,L,Bk,C,xb⟩:=hrel;have xn:=W3 xb.row;have xu:=xb.row.frozenAt (i*3+2);have HP:=hid xb;by_cases xj:i < g.n
  ·have hL:=xb.todo i (L1c _) xj
   have xa:wr.cell? ⟨fb,i*3+2,none⟩=some (.slice (g.f i).a (g.f i).n (g.f i).c):=by
    rw[xb.row.cellAt _ R5];exact D3 aY hL R5
   obtain⟨xr,yj⟩:=HC.out i xj;obtain⟨fa,xg,xc⟩:=(HG.out.2.2 i xj).2 xr;rw[fa] at xa;have xy:Hid (∀U,L0d wr U->Calls prog 172 #[.slice (some ⟨(g.f i).b,(g.f i).o,none⟩) (g.f i).n (g.f i).c] U fun e w'=>dW 165 2 (g.f i).n (L1 (g.f i)) U e w'):=by
    intro U hU;have xt:L0d w U:=(xk.out.trans (xb.below.mono xk.out.size)).trans (hU.mono (L5a xk.out.size xb.below.size));refine vL _ _ _ _ _ U xr R5 (I6 _ _ _) (fun j u hj=>?_) lJ (L0a xg xt.size);have yi:j < (g.f i).n*2:=by
     have:=(L1a.1 hj).1;rwa [L1,I6] at this
    obtain⟨q1,q2⟩:=eB (a:=fun j=>Value.int .i64 ((g.f i).op j)) (b:=fun j=>Value.int .i64 ((g.f i).ar j)) (show j / 2 < (g.f i).n by omega);obtain⟨p1,p2⟩:=xc (j / 2) R5;rw[xt.cell (p:=⟨(g.f i).b,_,none⟩) xg];have ya:j % 2=0\/j % 2=1:=by omega
    rcases ya with e | e
    ·rw [show (g.f i).o+j=(g.f i).o+j / 2*2 by omega,p1,<- q1,show j / 2*2=j by omega];exact hj
    ·rw [show (g.f i).o+j=(g.f i).o+j / 2*2+1 by omega,p2,<- q2,show j / 2*2+1=j by omega];exact hj
   have xh:=xn.2;clear fa xc hL xb xn;go_wp2_with (go_at_call 172;refine (xy.out _ (L3b _ _)).mono ?_;rintro e w3 ⟨nb,nc,rfl,xf,xm⟩;have yg:=(xm.cell (p:=⟨fb,i*3+2,none⟩) xh).trans xa;have yh:=(xm.frozen (p:=⟨fb,i*3+2,none⟩) xh).trans xu;have xo:=hid xf;have yd:=hid xm;clear xf xm)
   go_roundw
   case rel=>exact ⟨i+1,by omega,by go_num,HP.out.step xj yd.out xo.out⟩
   case measure=>simp [intOf];omega
  ·obtain rfl:i=g.n:=by omega
   have xl:w.heap.size+1 < V.heap.size:=by have:=xx.out;omega
   have rc:=(xb.below.cell (p:=⟨w.heap.size+1,0,none⟩) xl).trans yc.out;have rf:=(xb.below.frozen (p:=⟨w.heap.size+1,0,none⟩) xl).trans yb.out;have ye:w.heap.size+1 < wr.heap.size:=L0a xl xb.below.size;clear xb xn xu;have rr:(wr.setCell ⟨w.heap.size+1,0,none⟩ (.slice (zA fb) g.n fc)).cell? ⟨w.heap.size+1,0,none⟩=some (.slice (zA fb) g.n fc):=by go_simp
   go_wp2_with fail;exact bodyPost_ret (v:=.agg #[.slice (zA fb) g.n fc]) (by simp [results,results129,go_sem,rr]) rfl (HP.out.end xk.out R5 xl R5 (fun j hj=>by have:=HC.out j hj;omega) _ _ rfl)
end
section
variable {own:Own} {w:World}
theorem kQ {v v':Value} {t t':Tag} (h:E7 w own v t) (hn:∀b,v'.ownBlock=some b->w.heap.size<=b):E7 w (own.upd v'.ownBlock t') v t:=fun b hb=>by
 rcases h b hb with h1 | h1
 ·rcases Nat.lt_or_ge b w.heap.size with hl | hl
  ·refine L4a ?_
   unfold Own.upd;rw [if_neg (fun e=>by have:=hn b e;omega)];exact h1
  ·exact L4b hl
 ·exact L4b h1
theorem A4.addFrame {w':World} {mb:Nat} {g:PgR} {R:McR} {fr:FrR} {cv:Value} (h:A4 w own mb g R) (hsize:w.heap.size<=w'.heap.size)
  (hk:∀k,k < w.heap.size->k≠mb->own k≠some .called->w'.heap[k]?=w.heap[k]?)
  (hc:∀j,j≠3->w'.cell? ⟨mb,j,none⟩=w.cell? ⟨mb,j,none⟩) (hc3:w'.cell? ⟨mb,3,none⟩=some cv) (hfz:∀j,w'.frozen? ⟨mb,j,none⟩=false)
  (hrow:w'.ownsRow 0 86 4 cv (R.frs.length+1) ((R.frs++[fr]).flatMap FrR.cells)) (hon:E7 w own cv .called)
  (hloc:w'.ownsRow 0 92 2 fr.lv fr.loc.length (A7 fr.loc)) (hlnew:∀b,fr.lv.ownBlock=some b->w.heap.size<=b) (hne:∀b,fr.lv.ownBlock=some b->cv.ownBlock≠some b) (hs:fr.sv=.slice none 0 0/\fr.stk=[]) :
  A4 w' ((own.upd fr.lv.ownBlock (.loc R.frs.length)).upd cv.ownBlock .called) mb g { R with cv:=cv,frs:=R.frs++[fr] }:=by
 have xb:=h.lt;have xd:E7 w (own.upd fr.lv.ownBlock (.loc R.frs.length)) cv .called:=kQ hon hlnew;have xc:E7 w own fr.lv (.loc R.frs.length):=fun b hb=>L4b (hlnew b hb)
 have xa:∀k,k < w.heap.size->((own.upd fr.lv.ownBlock (.loc R.frs.length)).upd cv.ownBlock .called) k=own k:=fun k hk'=>by
  rw[Own.upd_old xd hk',Own.upd_old xc hk']
 have keep:∀t,t≠.mach->t≠.called->∀k,own k=some t->w'.heap[k]?=w.heap[k]?/\((own.upd fr.lv.ownBlock (.loc R.frs.length)).upd cv.ownBlock .called) k=some t:=fun t h1 h2 k hk' =>
  ⟨hk k (xb k t hk') (fun e=>by rw [e,h.me] at hk';exact h1 (L5b hk').symm) (by rw [hk'];exact fun e=>h2 (L5b e)),by rw [xa k (xb k t hk')];exact hk'⟩
 have xf:∀k,k < w.heap.size->own k=none->w'.heap[k]?=w.heap[k]?:=fun k hk1 hk2=>hk k hk1 (fun e=>by rw [e,h.me] at hk2;cases hk2) (by rw [hk2];simp)
 have xe:∀i x,(R.frs++[fr])[i]?=some x->(i=R.frs.length/\x=fr)\/R.frs[i]?=some x:=fun i x hx=>by
  rcases Nat.lt_or_ge i R.frs.length with hl | hl
  ·rw [List.getElem?_append_left hl] at hx;exact L4b hx
  ·rw [List.getElem?_append_right hl] at hx
   have:i - R.frs.length=0:=by
    have:=(L1a.1 hx).1;simp at this;omega
   rw[this] at hx;exact L4a ⟨by omega,by simpa using hx.symm⟩
 refine⟨fun k t hk'=>?_,?_,?_,?_,?_,hc3,?_,hfz,h.out.kept (keep _ R6 R6),⟨by simpa using hrow,fun b hb=>by simp [Own.upd,hb]⟩,h.slots.kept (keep _ R6 R6),
  fun i x hx=>?_,fun i x hx=>?_,fun j o ho=>(h.fld j o ho).kept (keep _ R6 R6),?_,?_,?_,?_,?_,h.draws.kept (keep _ R6 R6)⟩
 ·unfold Own.upd at hk'
  split at hk'
  ·rename_i e;exact (hrow.lt k e).2
  ·split at hk'
   ·rename_i e;exact (hloc.lt k e).2
   ·exact L0a (xb k t hk') hsize
 ·rw [xa mb (xb mb _ h.me)];exact h.me
 ·rw [hc 0 R5];exact h.c0
 ·rw [hc 1 R5];exact h.c1
 ·rw [hc 2 R5];exact h.c2
 ·rw [hc 4 R5];exact h.c4
 ·rcases xe i x hx with ⟨rfl,rfl⟩ | hx
  ·refine ⟨hloc,fun b hb=>?_⟩
   unfold Own.upd;rw[if_neg (hne b hb),if_pos hb]
  ·exact (h.loc i x hx).kept (keep _ R6 R6)
 ·rcases xe i x hx with ⟨rfl,rfl⟩ | hx
  ·rw [hs.1,hs.2]
   exact⟨World.ownsRow_nil _ _ _ _,fun b hb=>by cases hb⟩
  ·exact (h.stk i x hx).kept (keep _ R6 R6)
 ·exact h.pg.held hsize fun k hb=>xf k (h.pg.blk_lt hb) (h.ro k hb)
 ·intro k hb;rw [xa k (h.pg.blk_lt hb)];exact h.ro k hb
 ·exact h.tab.held hsize (xf 0 h.tab.1 h.ro0)
 ·rw [xa 0 h.tab.1];exact h.ro0
 ·rw [hc 5 R5];exact h.c5
def a1q (own:Own) (mb:Nat) (g:PgR) (R:McR) (fn:Nat) (loc:List Val) (w:World) (e:Ending) (w':World):Prop :=
 ∃own' cv lv,e=.returned (.tuple #[])/\A4 w' own' mb g { R with cv:=cv,frs:=R.frs++[⟨fn,0,lv,zD,loc,[]⟩] }/\A2 own w own' w'
theorem jA:(Tryz.prog.info? 86).map (fun i=>(i.zero,i.size,i.bytes))=some (some (.agg #[J 0,J 0,zD,zD]),4,64):=by kernel_rfl
theorem a8x (a b:Value) (n:Nat):(madeCells #[a,b] (n*2)).toList=(List.replicate n [a,b]).flatten:=by
 induction n with
 | zero=>simp [madeCells]
 | succ n ih =>
  have e:madeCells #[a,b] ((n+1)*2)=madeCells #[a,b] (n*2)++#[a,b]:=by
   apply Array.ext_getElem?
   intro j;by_cases h1:j < n*2
   ·rw [Array.getElem?_append_left (by rw [size_madeCells];exact h1)]
    simp only[madeCells,Array.getElem?_map,Array.getElem?_range];rw[if_pos R5,if_pos h1]
   ·rw [Array.getElem?_append_right (by rw [size_madeCells];omega),size_madeCells]
    by_cases h2:j < (n+1)*2
    ·have:j=n*2\/j=n*2+1:=by omega
     rcases this with rfl | rfl
     ·simp only [madeCells,Array.getElem?_map,Array.getElem?_range]
      rw[if_pos h2];simp
     ·simp only [madeCells,Array.getElem?_map,Array.getElem?_range]
      rw[if_pos h2];simp[Nat.add_mod]
    ·rw [Array.getElem?_eq_none (by rw [size_madeCells];omega),Array.getElem?_eq_none Q9]
  rw[e,Array.toList_append,ih,List.replicate_succ',List.flatten_append];simp
theorem aC (n:Nat):(madeCells #[zC 0,J 0] (n*2)).toList=A7 (List.replicate n (0,0)):=by
 rw[a8x];induction n with
 | zero=>rfl
 | succ n ih=>rw [List.replicate_succ,List.replicate_succ,List.flatten_cons,ih];rfl
end
section
variable {R:McR} {g:PgR} {mb:Nat} {own:Own} {w:World}
theorem rH {R:McR} {W w5:World} {fr:FrR} {gb cap lb lc:Nat} (h:A4 w own mb g R) (hB:L0d w W) (hgrow:W.grownBy w5 R.cv.ownBlock)
  (hown:w5.ownsRow 0 86 4 (.slice (zA gb) (R.frs.length+1) cap) (R.frs.length+1) (R.frs.flatMap FrR.cells++fr.cells)) (hat:R.cv.ownBlock=some gb\/gb=W.heap.size)
  (hlv:fr.lv=.slice (zA lb) fr.loc.length lc) (hlb:w.heap.size<=lb) (hlW:lb < W.heap.size) (hlr:W.ownsRow 0 92 2 fr.lv fr.loc.length (A7 fr.loc)) (hs:fr.sv=.slice none 0 0/\fr.stk=[]) :
  w5.frozen? ⟨mb,3,none⟩=false/\w5.cell? ⟨mb,3,none⟩=some R.cv/\mb < w5.heap.size/\∃own',A4 (w5.setCell ⟨mb,3,none⟩ (.slice (zA gb) (R.frs.length+1) cap)) own' mb g { R with cv:=.slice (zA gb) (R.frs.length+1) cap,frs:=R.frs++[fr] } /\
   A2 own w own' (w5.setCell ⟨mb,3,none⟩ (.slice (zA gb) (R.frs.length+1) cap)):=by
 have xk:mb < w.heap.size:=h.lt mb _ h.me;have xc:∀b,R.cv.ownBlock=some b->own b=some .called:=h.called.2
 have xj:R.cv.ownBlock≠some mb:=fun e=>by have:=xc mb e;rw [h.me] at this;cases this
 have xl:gb≠mb:=fun e=>by
  rcases hat with h1 | h1
  ·exact xj (e▸h1)
  ·have:=hB.size;omega
 have xg:w.heap.size<=w5.heap.size:=L5a hB.size hgrow.size;have xe:E7 w own (.slice (zA gb) (R.frs.length+1) cap) .called:=fun b hb=>by
  obtain rfl:gb=b:=by simpa [Value.ownBlock] using hb
  rcases hat with h1 | h1
  ·exact L4a (xc gb h1)
  ·exact L4b (by have:=hB.size;omega)
 have xm:lb≠gb:=fun e=>by
  rcases hat with h1 | h1
  ·have:=h.lt gb _ (xc gb h1);omega
  ·omega
 have xb:∀k,k < w.heap.size->own k≠some .called->w5.heap[k]?=w.heap[k]?:=fun k hk ho=>by
  rw[hgrow.block k (L0a hk hB.size) (fun e=>ho (xc k e.symm)),hB.block k hk]
 have xa:=xb mb xk (by rw [h.me];simp);have xf:∀j,w5.frozen? ⟨mb,j,none⟩=false:=fun j=>by rw [L0c (w:=w) (a:=⟨mb,j,none⟩) xa];exact h.fz j
 have xi:w5.cell? ⟨mb,3,none⟩=some R.cv:=by rw [L0b (w:=w) (a:=⟨mb,3,none⟩) xa];exact h.c3
 have xd:w5.ownsRow 0 92 2 fr.lv fr.loc.length (A7 fr.loc):=A6 hlr fun b hb=>by
  rw[hlv] at hb;obtain rfl:lb=b:=by simpa [Value.ownBlock] using hb
  refine hgrow.block lb hlW (fun e=>?_);have:=h.lt lb _ (xc lb e.symm);omega
 refine⟨xf 3,xi,by omega,_,A4.addFrame (cv:=.slice (zA gb) (R.frs.length+1) cap) (fr:=fr) h (by simpa using xg) (fun k hk h1 h2=>?_) (fun j hj=>?_) ?_ (fun j=>?_) ?_ xe ?_ (fun b hb=>?_) (fun b hb=>?_) hs,?_⟩
 ·rw [heap_setCell_other _ _ _ _ h1];exact xb k hk h2
 ·rw [<- L0b (w:=w) (w':=w5) (a:=⟨mb,j,none⟩) xa]
  go_simp
 ·go_simp
 ·have:=xf j
  go_simp
 ·have:=ownsRow_setCell_other hown (a:=⟨mb,3,none⟩) (by simpa [Value.ownBlock] using xl) (.slice (zA gb) (R.frs.length+1) cap)
  simpa using this
 ·exact ownsRow_setCell_other xd (by rw [hlv];simp only [Value.ownBlock,ne_eq,Option.some.injEq];omega) _
 ·rw [hlv] at hb
  obtain rfl:lb=b:=by simpa [Value.ownBlock] using hb
  exact hlb
 ·rw [hlv] at hb
  obtain rfl:lb=b:=by simpa [Value.ownBlock] using hb
  simp only[Value.ownBlock,ne_eq,Option.some.injEq];omega
 ·refine ⟨hgrow.os.trans hB.os,hgrow.tape.trans hB.tape,hgrow.output.trans hB.output,by simpa using xg,fun k hk hno=>?_,fun k hk=>?_⟩
  ·rw [heap_setCell_other _ _ _ _ (fun e=>by rw [e,h.me] at hno;cases hno)]
   exact xb k hk (by rw [hno];simp)
  ·have xh:∀b,fr.lv.ownBlock=some b->w.heap.size<=b:=fun b hb=>by
    rw[hlv] at hb;obtain rfl:lb=b:=by simpa [Value.ownBlock] using hb
    exact hlb
   rw[Own.upd_old (kQ xe xh) hk,Own.upd_old (fun b hb=>L4b (xh b hb)) hk]
theorem a2B (h:A4 w own mb g R) (fn l:Nat) (p:Int) (ca:Option Addr) (cn cc:Nat) (hl:l<=8) (hn:R.frs.length<=1000) :
  Calls prog 130 #[.pointer (some ⟨mb,3,none⟩),J (fn:Int),.agg #[J p,J (l:Int),.slice ca cn cc],zD] w fun e w'=>a1q own mb g R fn (List.replicate l (0,0)) w e w':=by
 have c3:=h.c3;have xn:=h.fz 3;have xm:mb < w.heap.size:=h.lt mb _ h.me;obtain⟨xb,hi,hz,xc,xd⟩:=info_parts J2;have xe:Hid (∀W:World,(Instr.makeSlice 84 (J (l:Int)) (J (l:Int))).run prog W=.ok (.slice (zA W.heap.size) l l) (W.alloc (.cells (madeCells #[zC 0,J 0] (l*2)) 92))):=by
  intro W;have hr:=run_make (P:=prog) W 84 92 xb _ underlying84 hi hz .i64 .i64 l l R5 (Int.le_refl _) (by rw [xd];omega) R5;simpa [xc,Value.cells] using hr
 have xj:=xe.out;have xl:∀(W:World) (b:Nat),(Builtin.copy_ #[84,84] 3 #[.slice (zA b) l l,zD]).run prog W=.ok (goInt 0) W:=fun W b=>run_copy_nil (P:=prog) W 84 84 3 92 ⟨b,0,none⟩ l l underlying84 (by rw [hi];rfl)
 have HH:=hid h;clear h hi hz xc xd xe;go_enter func130,ntmps130;obtain⟨xi,ji,jz,xg,xf⟩:=info_parts jA;have JI:=hid ji;have JZ:=hid jz;have xk:=hid xg;have xh:=hid xf;have HO:=hid HH.out.called.1;clear ji jz xg xf;go_wp2_with (at_builtin;go_must (refine wpList_append_lies _ rfl (.tmp 19) (.tmp 23) 66 rfl 0 86 xi _ 4 64 underlying66 JI.out JZ.out xk.out xh.out rfl R4 R.cv R.frs.length (R.frs.flatMap FrR.cells) rfl (((HO.out.alloc _).alloc _).alloc _) ⟨w.heap.size+1+1,0,none⟩ 1 1 (FrR.cells ⟨fn,0,.slice (some ⟨w.heap.size+1,0,none⟩) l l,zD,List.replicate l (0,0),[]⟩) rfl rfl (World.news_of_block (cs:=#[J (fn:Int),J 0,.slice (some ⟨w.heap.size+1,0,none⟩) l l,zD]) (t:=86) (fr:=(0,0)) (B0 R6)) (by intro u hu;simp only [FrR.cells,List.mem_cons,List.not_mem_nil,or_false] at hu;rcases hu with rfl | rfl | rfl | rfl <;> rfl) R5 Q7 R5 (L4c _) _ rfl ?_))
 intro gb cap w5 hown hgrow hat hlt;obtain⟨y0,y1,y2,xa,hM,hT⟩:=rH (lb:=w.heap.size+1) (lc:=l) HH.out P8 hgrow hown (hat.imp id fun e=>e.trans R6) R6 R5 R6 (by
  refine World.ownsRow.alloc ?_ _;have:=World.ownsRow_lit (base:=0) (e:=92) (size:=2) (w.alloc (Obj.cells #[J p,J (l:Int),.slice ca cn cc] 163)) (madeCells #[zC 0,J 0] (l*2)) l (L4c _) Q7 (by rw [size_madeCells]);rw[aC] at this;simpa using this) ⟨rfl,rfl⟩
 have HM:=hid hM;have HT:=hid hT;clear hM hT hown hgrow hat hlt xj xl;go_wp2_with fail;go_end0
 exact⟨xa,_,_,rfl,HM.out,HT.out⟩
end
theorem qX {P:Program} (w:World) (dT sT ty elem:TypeId) (g o dLen dCap:Nat) (a:Addr) (sLen sCap size:Nat) (cur:Array Value) (t:TypeId) (cs:List Value)
  (hu:P.underlying dT=some (.slice elem)) (hs:(P.info? elem).map (·.size)=some size)
  (hg:w.heap[g]?=some (.cells cur t (0,0))) (hn:cs.length=Nat.min sLen dLen*size)
  (hsrc:∀j v,cs[j]?=some v->w.cell? (a.add j)=some v) (hfit:o+cs.length<=cur.size) (h1:∀v∈cs,v.oneCell'=true) :
  (Builtin.copy_ #[dT,sT] ty #[.slice (some ⟨g,o,none⟩) dLen dCap,.slice (some a) sLen sCap]).run P w =
   .ok (goInt (Nat.min sLen dLen)) (w.setRow g (cur.toList.take o++cs++cur.toList.drop (o+cs.length)).toArray):=by
 have hl:=run_loadCells_list (P:=P) w a cs hsrc;have xa:=run_storeCells_at P g o t cs 0 cur w hg (by simpa using hfit) h1
 cases hq:P.info? elem with
 | none=>simp [hq] at hs
 | some i =>
  have hi:i.size=size:=by simpa [hq] using hs
  simp[Builtin.copy_,run_underlying hu,Builtin.lenOf,Builtin.firstCells,sizeOf,typeInfo,hq,hi,<- hn,hl,xa]
end Go.Proofs.YtbkmgoffiigdbaaGreatDoor
