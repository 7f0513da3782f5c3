import Derived.Test.YtbkmgoffiigdbaaGreatDoorWAc
import Derived.Deep.DeepMust
import Derived.Deep.Heap
import Derived.Deep.RegionLaw
namespace Go.Proofs.YtbkmgoffiigdbaaGreatDoor
open Go.RowKit Go.Proofs.Tryz
set_option maxHeartbeats 4000000
set_option maxRecDepth 100000
section
variable {Bk C:Nat->Nat} {W1 w2 w5 wr:World} {cb cc i lb lc q:Nat} {cv:Value} {g:PgR}
def uL (g:PgR) (q:Nat) (W1 wr:World) (i:Nat):Prop :=
 ∃(Bk C:Nat->Nat) (cv:Value),wr.cell? ⟨q,0,none⟩=some cv/\wr.frozen? ⟨q,0,none⟩=false/\wr.ownsRow (q+1) 163 3 cv i (E1 g Bk C i) /\
  (∀j,j < i->U5 (q+1) wr (g.f j) (Bk j) (C j))/\(∀j j',j < i->j' < i->Bk j=Bk j'->j=j')/\Below q W1 wr/\q+1<=wr.heap.size
theorem sM:∀u∈iC,u.oneCell'=true:=by
 intro u hu;simp only[iC,List.mem_cons,List.not_mem_nil,or_false] at hu;rcases hu with rfl | rfl | rfl | rfl <;> rfl
theorem lU (p l:Int) (lb n lc:Nat):∀u∈[Value.int .i64 p,.int .i64 l,.slice (some ⟨lb,0,none⟩) n lc],u.oneCell'=true:=by
 intro u hu;simp only[List.mem_cons,List.not_mem_nil,or_false] at hu;rcases hu with rfl | rfl | rfl <;> rfl
theorem qW:∀u∈[Value.int .i64 (-7070),.int .i64 0,.slice none 0 0],u.oneCell'=true:=by
 intro u hu;simp only[List.mem_cons,List.not_mem_nil,or_false] at hu;rcases hu with rfl | rfl | rfl <;> rfl
theorem iF {B:Nat} {w:World} {f:FnR} (hf:L4 B w f):∀ad,f.a=some ad->∀j u,(J9 f)[j]?=some u->w.cell? (ad.add j)=some u:=by
 intro ad had j u hu;have hj:j < f.n*2:=by
  have:=(L1a.1 hu).1;rwa [show (J9 f).length=f.n*2 from I1 _ _ _] at this
 obtain⟨h1,_,h3⟩:=hf.2 R4;rw[had] at h1;obtain rfl:=L5b h1;rw[Go.WideShapes.add_plain];have h2:=h3 (j / 2) R4;have hg:=bZ (a:=fun j=>.int .i64 (f.op j)) (b:=fun j=>.int .i64 (f.ar j)) (show j / 2 < f.n by omega);rcases Nat.mod_two_eq_zero_or_one j with hm | hm
 ·have e:j / 2*2=j:=by omega
  rw[e] at h2 hg;unfold J9 at hu;rw[hg.1] at hu;rw[<- L5b hu];exact h2.1
 ·have e:j / 2*2+1=j:=by omega
  have e':f.o+j / 2*2+1=f.o+j:=by omega
  rw[e'] at h2;rw[e] at hg;unfold J9 at hu;rw[hg.2] at hu;rw[<- L5b hu];exact h2.2
theorem a0E (o:Obj) (hown:wr.ownsRow (q+1) 163 3 cv i (E1 g Bk C i))
  (hcopy:∀j,j < i->U5 (q+1) wr (g.f j) (Bk j) (C j)) (hinj:∀j j',j < i->j' < i->Bk j=Bk j'->j=j') (hbel:Below q W1 wr) (hsz:q+1<=wr.heap.size) (hB2w:L0d wr w2)
  (hcopyN:U5 (wr.heap.size+1) w2 (g.f i) lb lc) (hgrow:(w2.alloc o).grownBy w5 cv.ownBlock)
  (hown5:w5.ownsRow (q+1) 163 3 (.slice (some ⟨cb,0,none⟩) (i+1) cc) (i+1) (E1 g Bk C i++[.int .i64 (g.f i).p,.int .i64 (g.f i).l,.slice (some ⟨lb,0,none⟩) (g.f i).n lc]))
  (hq:w5.cell? ⟨q,0,none⟩=some cv) (hqf:w5.frozen? ⟨q,0,none⟩=false) :
  uL g q W1 (w5.setCell ⟨q,0,none⟩ (.slice (some ⟨cb,0,none⟩) (i+1) cc)) (i+1):=by
 have xa:=hown.lt;have xh:=hB2w.size;obtain⟨xe,xb,_,_,_⟩:=I6 hcopyN;have xj:w2.heap.size+1<=w5.heap.size:=by have:=hgrow.size;simpa using this
 have xd:∀b,b < w2.heap.size->cv.ownBlock≠some b->b≠q->(w5.setCell ⟨q,0,none⟩ (.slice (some ⟨cb,0,none⟩) (i+1) cc)).heap[b]?=w2.heap[b]?:=fun b hb hne hbq=>by
  rw[Below.heap_setCell _ _ _ _ hbq,hgrow.block b Q8 (fun e=>hne e.symm)];exact Below.heap_alloc _ _ _ hb
 refine⟨fun j=>if j=i then lb else Bk j,fun j=>if j=i then lc else C j,.slice (some ⟨cb,0,none⟩) (i+1) cc,by go_simp,by go_simp,?_,fun j hj=>?_,fun j j' hj hj' he=>?_,?_,by simp;omega⟩
 ·have h1:=ownsRow_setCell_below hown5 (a:=⟨q,0,none⟩) R5 (.slice (some ⟨cb,0,none⟩) (i+1) cc)
  have h2:E1 g (fun j=>if j=i then lb else Bk j) (fun j=>if j=i then lc else C j) (i+1)=E1 g Bk C i++[.int .i64 (g.f i).p,.int .i64 (g.f i).l,.slice (some ⟨lb,0,none⟩) (g.f i).n lc]:=by
   unfold E1;rw[Y4,jW (c':=fun j=>.slice (some ⟨Bk j,0,none⟩) (g.f j).n (C j)) (fun j hj=>by simp only [if_neg (show ¬j=i by omega)])];simp
  rw[h2];exact h1
 ·by_cases e:j=i
  ·subst e
   simp only[if_pos];refine D6 (J3 hcopyN (xd lb xb (fun h=>?_) R4)) R4;have:=(xa lb h).2;omega
  ·simp only [if_neg e]
   have hc:=hcopy j R4;obtain⟨h1,h2,_,_,xi,xc⟩:=I6 hc;refine J3 hc ((xd (Bk j) R4 (fun h=>?_) R4).trans (hB2w.block _ h2));rcases hown.2 with ⟨h0,_⟩ | ⟨gb,xg,xf,hv,_,hh,_⟩
   ·rw [h0] at h;cases h
   ·rw [hv] at h
    have:gb=Bk j:=by simpa [Value.ownBlock] using h
    rw[this,xc] at hh;have:=L5b hh;simp at this
 ·have lt:∀j,j < i->Bk j < lb:=fun j hj=>by have:=(I6 (hcopy j hj)).2.1;omega
  by_cases e:j=i
  ·by_cases e':j'=i
   ·omega
   ·have:=lt j' R4;simp only [if_pos e,if_neg e'] at he;omega
  ·by_cases e':j'=i
   ·have:=lt j R4;simp only [if_neg e,if_pos e'] at he;omega
   ·simp only [if_neg e,if_neg e'] at he;exact hinj j j' R4 R4 he
 ·refine Below.setCell (p:=⟨q,0,none⟩) ?_ (L1c _) _
  have h2:Below q W1 w2:=hbel.trans (hB2w.mono R4);exact (h2.alloc R4 o).grown hgrow Q8 (fun k hk=>by have:=(xa k hk).1;omega)
theorem sZ {o:Obj} (hown:wr.ownsRow (q+1) 163 3 cv i (E1 g Bk C i))
  (hcopy:∀j,j < i->U5 (q+1) wr (g.f j) (Bk j) (C j)) (hinj:∀j j',j < i->j' < i->Bk j=Bk j'->j=j') (hbel:Below q W1 wr) (hsz:q+1<=wr.heap.size) (hB2w:L0d wr w2)
  (hcopyN:U5 (wr.heap.size+1) w2 (g.f i) lb lc) (hq2:w2.cell? ⟨q,0,none⟩=some cv) (hf2:w2.frozen? ⟨q,0,none⟩=false) (hgrow:(w2.alloc o).grownBy w5 cv.ownBlock)
  (hown5:w5.ownsRow (q+1) 163 3 (.slice (some ⟨cb,0,none⟩) (i+1) cc) (i+1) (E1 g Bk C i++[.int .i64 (g.f i).p,.int .i64 (g.f i).l,.slice (some ⟨lb,0,none⟩) (g.f i).n lc])) :
  w5.cell? ⟨q,0,none⟩=some cv/\w5.frozen? ⟨q,0,none⟩=false/\uL g q W1 (w5.setCell ⟨q,0,none⟩ (.slice (some ⟨cb,0,none⟩) (i+1) cc)) (i+1):=by
 have xd:=hB2w.size;have xc:some q≠cv.ownBlock:=fun e=>by have:=(hown.lt q e.symm).1;omega
 have xa:w5.cell? ⟨q,0,none⟩=some cv:=by
  rw[hgrow.cell_far ⟨q,0,none⟩ Q8 xc,<- hq2];exact L0b (Below.heap_alloc _ _ _ (by show q < _;omega))
 have xb:w5.frozen? ⟨q,0,none⟩=false:=by
  rw[hgrow.frozen_far ⟨q,0,none⟩ Q8 xc,<- hf2];exact L0c (Below.heap_alloc _ _ _ (by show q < _;omega))
 exact⟨xa,xb,a0E o hown hcopy hinj hbel hsz hB2w hcopyN hgrow hown5 xa xb⟩
theorem a2Q (g:PgR) (w:World) (hg:I5 w.heap.size w g) (hr:gU g) :
  Calls prog 54 #[.agg #[.slice g.a g.n g.c]] w fun e w'=>rO g w e w':=by
 have hn:=hg.1;have zg:=hr.1;obtain⟨yn,xz,xx,xs,xv⟩:=info_parts a2H;obtain⟨ym,ya,yb,xy,xt⟩:=info_parts a2I;go_enter func54,ntmps54;go_wp2
 generalize hqW1:(((w.alloc (Obj.cells #[.slice g.a g.n g.c] 41)).alloc (Obj.cells #[.slice none 0 0] 41)).alloc (Obj.cells #[.slice none 0 0] 41))=W1 at *
 have p0:W1.cell? ⟨w.heap.size,0,none⟩=some (.slice g.a g.n g.c):=by subst hqW1;go_simp
 have r0:W1.cell? ⟨w.heap.size+1,0,none⟩=some (.slice none 0 0):=by subst hqW1;go_simp
 have rf:W1.frozen? ⟨w.heap.size+1,0,none⟩=false:=by subst hqW1;go_simp
 have q0:W1.cell? ⟨w.heap.size+1+1,0,none⟩=some (.slice none 0 0):=by subst hqW1;go_simp
 have qf:W1.frozen? ⟨w.heap.size+1+1,0,none⟩=false:=by subst hqW1;go_simp
 have xj:L0d w W1:=by subst hqW1;repeat (first | exact L3b _ _ | refine L3a ?_ Q1 _)
 have zh:W1.heap.size=w.heap.size+1+1+1:=by subst hqW1;simp
 clear hqW1;obtain⟨q,hq⟩:∃q,q=w.heap.size+1+1:=⟨_,rfl⟩
 rw[<- hq] at q0 qf zh ⊢;have qa:w.heap.size+1 < q:=by omega
 have qb:w.heap.size < q:=by omega
 clear hq;go_loopw [4] (fun v wr=>∃i:Nat,i<=g.n/\v=.int .i64 i/\uL g q W1 wr i) (fun v _=>g.n - (intOf v).toNat)
 case atStart=>exact ⟨0,L4c _,rfl,fun _=>0,fun _=>0,.slice none 0 0,q0,qf,World.ownsRow_nil _ _ _ _,fun j hj=>by omega,fun j j' hj=>by omega,L3b _ _,by omega⟩
 case round =>
  obtain⟨i,hi,rfl,Bk,C,cv,zt,zw,xb,xl,xw,xa,zm⟩:=hrel;have xi:L0d w wr:=xj.trans (xa.mono R4);have k0:wr.cell? ⟨w.heap.size,0,none⟩=some (.slice g.a g.n g.c):=by rw [xa.cell (by show w.heap.size < q;omega)];exact p0
  have qe:w.heap.size < wr.heap.size:=by omega
  have zy:q < wr.heap.size:=by omega
  have xg:=(show Hid _ from xl);clear xl;have xo:=(show Hid _ from xw);clear xw;by_cases hlt:i < g.n
  ·obtain ⟨ha,hb,hc⟩:=hg.2.1 R4
   obtain⟨c0,c1,c2⟩:=hc i hlt;rw[<- xi.cell (p:=⟨g.b,_,none⟩) hb] at c0 c1 c2;clear hc;have qh:g.b < wr.heap.size:=by omega
   rw[ha] at k0;have HA:=(show Hid _ from ha);clear ha;have yi:L4 w.heap.size wr (g.f i):=(hg.2.2 i hlt).below xi;obtain⟨yy,xk⟩:=hr.2 i hlt;have xh:L4 w.heap.size (wr.alloc (Obj.cells #[.int .i64 (g.f i).p,.int .i64 (g.f i).l,.slice (g.f i).a (g.f i).n (g.f i).c] 163)) (g.f i):=yi.below ((L3b _ _).alloc R4 _);have yj:=(show Hid _ from xk);clear xk;go_wp2_with (at_builtin;refine bM _ rfl (.tmp 19) (.tmp 21) 161 rfl (wr.heap.size+1) 165 ym _ 2 16 underlying161 ya yb xy xt rfl R3 rfl (g.f i).a (g.f i).n (g.f i).c (J9 (g.f i)) rfl (I1 _ _ _) yj.out (iF xh) jF Q5 R4 R5 ?_)
   intro lv w1 hown1 hgrow1;have yr:(wr.alloc (Obj.cells #[.int .i64 (g.f i).p,.int .i64 (g.f i).l,.slice (g.f i).a (g.f i).n (g.f i).c] 163)).heap.size=wr.heap.size+1:=by simp
   have yp:Below (wr.alloc (Obj.cells #[.int .i64 (g.f i).p,.int .i64 (g.f i).l,.slice (g.f i).a (g.f i).n (g.f i).c] 163)).heap.size (wr.alloc (Obj.cells #[.int .i64 (g.f i).p,.int .i64 (g.f i).l,.slice (g.f i).a (g.f i).n (g.f i).c] 163)) w1:=⟨hgrow1.os,hgrow1.tape,hgrow1.output,hgrow1.size,fun k hk=>hgrow1.block k hk R5⟩;have ye:(wr.alloc (Obj.cells #[.int .i64 (g.f i).p,.int .i64 (g.f i).l,.slice (g.f i).a (g.f i).n (g.f i).c] 163)).heap.size<=w1.heap.size:=hgrow1.size
   have yd:=hown1.lt;have xu:=(show Hid _ from yd);clear yd hgrow1;go_wp2_with (at_builtin;go_must (refine wpList_append_lies _ rfl (.tmp 23) (.tmp 26) 161 rfl (wr.heap.size+1) 165 ym _ 2 16 underlying161 ya yb xy xt rfl R3 lv (g.f i).n (J9 (g.f i)) rfl (hown1.alloc _) ⟨w1.heap.size,0,none⟩ 2 2 iC rfl rfl (World.news_of_block (cs:=#[.int .i64 (-7070),.int .i64 0,.int .i64 (-7070),.int .i64 0]) (t:=165) (fr:=(0,0)) (Go.Deep.blk_alloc_new _ _)) sM R4 Q5 R4 Q8 (w1.heap.size+1) R5 ?_))
   intro lb lc w2 hown2 hgrow2 hat2 hlt2;have xc:Below (wr.alloc (Obj.cells #[.int .i64 (g.f i).p,.int .i64 (g.f i).l,.slice (g.f i).a (g.f i).n (g.f i).c] 163)).heap.size (wr.alloc (Obj.cells #[.int .i64 (g.f i).p,.int .i64 (g.f i).l,.slice (g.f i).a (g.f i).n (g.f i).c] 163)) w2:=yp.trans ⟨hgrow2.os,hgrow2.tape,hgrow2.output,L5a R5 hgrow2.size,fun k hk=>by
    rw[hgrow2.block k Q8 (fun e=>by have:=(xu.out k e.symm).1;omega)];exact Below.heap_alloc _ _ _ R4⟩
   have xm:U5 (wr.heap.size+1) w2 (g.f i) lb lc:=hown2;obtain⟨xp,zo,zl,zk,_⟩:=I6 hown2;have yc:w2.ownsRow (q+1) 163 3 cv i (E1 g Bk C i):=by
    refine (xb.alloc _).kept (row:=none) ⟨xc.os,xc.tape,xc.output,xc.size,fun k hk _=>xc.block k hk⟩ ?_
    cases hv:cv.ownBlock with
    | none=>exact L4a rfl
    | some k=>exact L4b R5
   have x0:w2.cell? ⟨wr.heap.size,0,none⟩=some (.int .i64 (g.f i).p):=by rw [xc.cell R5];go_simp
   have x1:w2.cell? ⟨wr.heap.size,1,none⟩=some (.int .i64 (g.f i).l):=by rw [xc.cell R5];go_simp
   have x2:w2.cell? ⟨wr.heap.size,2,none⟩=some (.slice (g.f i).a (g.f i).n (g.f i).c):=by rw [xc.cell R5];go_simp
   have xq:w2.cell? ⟨q,0,none⟩=some cv:=by rw [xc.cell Q8];go_simp
   have xf:w2.frozen? ⟨q,0,none⟩=false:=by rw [xc.frozen Q8];go_simp
   have yk:L0d wr w2:=((L3b _ _).alloc (L1c _) _).trans (xc.mono R5);have zb:wr.heap.size+1<=w2.heap.size:=by rw [<- yr];exact xc.size
   have za:((g.f i).n:Int)<=(lc:Int):=by omega
   have zr:wr.heap.size+1<=lb:=xp;clear hgrow2 hown1 yp xu ye hat2 xc c0 c1 c2 k0 zt zw hown2 xh yr xp;obtain⟨fb,yg⟩:∃fb,fb=wr.heap.size:=⟨_,rfl⟩
   rw[<- yg] at x0 x1 x2 ⊢;have zv:fb < w2.heap.size:=by omega
   have yw:q < w2.heap.size:=by omega
   have zn:q < fb:=by omega
   have xd:∀k,cv.ownBlock=some k->q+1<=k/\k < wr.heap.size:=xb.lt
   have zc:=(show Hid _ from xd);clear xd;have qd:=(show Hid _ from yg);clear yg;go_wp2_with fail;go_region_law ((refine step_append_lies _ rfl (.tmp 29) (.tmp 40) 39 rfl (q+1) 163 yn _ 3 40 underlying39 xz xx xs xv rfl R3 cv i (E1 g Bk C i) (by first | rfl | simp [Act.eval,Act.put]) (by exact yc.alloc _) ⟨w2.heap.size,0,none⟩ 1 1 [.int .i64 (g.f i).p,.int .i64 (g.f i).l,.slice (some ⟨lb,0,none⟩) (g.f i).n lc] (by first | rfl | simp [Act.eval,Act.put]) rfl (World.news_of_block (cs:=#[.int .i64 (g.f i).p,.int .i64 (g.f i).l,.slice (some ⟨lb,0,none⟩) (g.f i).n lc]) (t:=163) (fr:=(0,0)) (by exact Go.Deep.blk_alloc_new _ _)) (lU _ _ _ _ _) R4 Q5 R4 Q8 (w2.heap.size+1) R5 ?_;intro cb cc w5 hown5 hgrow5 hat5 hlt5;obtain ⟨yq,yf,yz⟩:=sZ xb xg.out xo.out xa zm yk xm xq xf ⟨hgrow5.os,hgrow5.tape,hgrow5.output,hgrow5.size,hgrow5.block⟩ hown5;clear hown5 hgrow5 hat5 hlt5))
   all_goals
    go_wp2_with fail;go_roundw
    case rel=>exact ⟨i+1,by omega,by go_num,yz⟩
    case measure=>simp [intOf];omega
  ·have zs:i=g.n:=by omega
   subst zs;clear k0;have ze:w.heap.size+1 < wr.heap.size:=by omega
   have k0:wr.cell? ⟨w.heap.size,0,none⟩=some (.slice g.a g.n g.c):=by rw [xa.cell (by show w.heap.size < q;omega)];exact p0
   have m0:wr.cell? ⟨w.heap.size+1,0,none⟩=some (.slice none 0 0):=by rw [xa.cell (by show w.heap.size+1 < q;omega)];exact r0
   have mf:wr.frozen? ⟨w.heap.size+1,0,none⟩=false:=by rw [xa.frozen (by show w.heap.size+1 < q;omega)];exact rf
   go_wp2_with (at_builtin;go_must (refine wpList_append_lies _ rfl (.tmp 44) (.tmp 46) 39 rfl (q+1) 163 yn _ 3 40 underlying39 xz xx xs xv rfl R3 cv g.n (E1 g Bk C g.n) rfl (xb.alloc _) ⟨wr.heap.size,0,none⟩ 1 1 [.int .i64 (-7070),.int .i64 0,.slice none 0 0] rfl rfl (World.news_of_block (cs:=#[.int .i64 (-7070),.int .i64 0,.slice none 0 0]) (t:=163) (fr:=(0,0)) (Go.Deep.blk_alloc_new _ _)) qW R4 Q5 R4 Q8 (wr.heap.size+1) R5 ?_))
   intro cb cc w5 hown5 hgrow5 hat5 hlt5;have xd:=xb.lt;have xn:∀b,b < q+1->some b≠cv.ownBlock:=fun b hb e=>by have:=(xd b e.symm).1;omega
   have qg:wr.heap.size+1<=w5.heap.size:=by have:=hgrow5.size;simpa using this
   have z0:w5.cell? ⟨w.heap.size,0,none⟩=some (.slice g.a g.n g.c):=by rw [hgrow5.cell_far _ Q8 (xn _ (by show w.heap.size < q+1;omega))];go_simp
   have z1:w5.cell? ⟨w.heap.size+1,0,none⟩=some (.slice none 0 0):=by rw [hgrow5.cell_far _ Q8 (xn _ (by show w.heap.size+1 < q+1;omega))];go_simp
   have z2:w5.frozen? ⟨w.heap.size+1,0,none⟩=false:=by rw [hgrow5.frozen_far _ Q8 (xn _ (by show w.heap.size+1 < q+1;omega))];go_simp
   have zq:w5.cell? ⟨q,0,none⟩=some cv:=by rw [hgrow5.cell_far _ Q8 (xn _ (by show q < q+1;omega))];go_simp
   have zf:w5.frozen? ⟨q,0,none⟩=false:=by rw [hgrow5.frozen_far _ Q8 (xn _ (by show q < q+1;omega))];go_simp
   obtain⟨zx,zd,yu,yv,_⟩:=I6 hown5;have xr:Below q W1 w5:=(xa.alloc R4 _).grown hgrow5 Q8 (fun k hk=>by have:=(xd k hk).1;omega);have xe:∀j,j < g.n->U5 (q+1) w5 (g.f j) (Bk j) (C j):=fun j hj=>by
    have hc:=xg.out j hj;obtain⟨h1,h2,_,_,zz,yh⟩:=I6 hc;refine J3 hc ?_;rw[hgrow5.block (Bk j) Q8 (fun h=>?_)]
    ·exact Below.heap_alloc _ _ _ h2
    ·rcases xb.2 with ⟨h0,_⟩ | ⟨gb,qc,zu,hv,_,hh,_⟩
     ·rw [h0] at h;cases h
     ·rw [hv] at h
      have:Bk j=gb:=by simpa [Value.ownBlock] using h
      rw[<- this,yh] at hh;have:=L5b hh;simp at this
   have yx:=(show Hid _ from xe);clear xe;have zj:(g.n:Int)<=(cc:Int):=by omega
   have yt:w.heap.size < w5.heap.size:=by omega
   have ys:w.heap.size+1 < w5.heap.size:=by omega
   have zi:q < w5.heap.size:=by omega
   clear hgrow5 hat5 hlt5 xd xn;go_wp2_with fail;have zp:¬q=w.heap.size+1:=by omega
   have yo:¬w.heap.size+1=q:=by omega
   have yl:(((w5.setCell ⟨q,0,none⟩ (.slice (some ⟨cb,0,none⟩) (g.n+1) cc)).setCell ⟨q,0,none⟩ (.slice (some ⟨cb,0,none⟩) g.n cc)).setCell ⟨w.heap.size+1,0,none⟩ (.slice (some ⟨cb,0,none⟩) g.n cc)).cell? ⟨w.heap.size+1,0,none⟩=some (.slice (some ⟨cb,0,none⟩) g.n cc):=by go_light;go_simp
   refine bodyPost_ret (v:=.agg #[.slice (some ⟨cb,0,none⟩) g.n cc]) (by simp [results,results54,go_sem,yl]) rfl ⟨Bk,C,cb,cc,rfl,?_,fun j hj=>?_,xo.out,?_⟩
   ·exact D6 (ownsRow_setCell_below (ownsRow_setCell_below (ownsRow_setCell_below hown5 (a:=⟨q,0,none⟩) (by show q < q+1;omega) _) (a:=⟨q,0,none⟩) (by show q < q+1;omega) _) (a:=⟨w.heap.size+1,0,none⟩) (by show w.heap.size+1 < q+1;omega) _) R4
   ·have hc:=yx.out j hj
    have h1:=(I6 hc).1;refine D6 (J3 hc ?_) R4;rw[Below.heap_setCell _ _ _ _ (by show Bk j≠w.heap.size+1;omega),Below.heap_setCell _ _ _ _ (by show Bk j≠q;omega),Below.heap_setCell _ _ _ _ (by show Bk j≠q;omega)]
   ·exact (((xj.trans (xr.mono R4)).setCell (p:=⟨q,0,none⟩) (by show w.heap.size<=q;omega) _).setCell (p:=⟨q,0,none⟩) (by show w.heap.size<=q;omega) _).setCell (p:=⟨w.heap.size+1,0,none⟩) (by show w.heap.size<=w.heap.size+1;omega) _
end
end Go.Proofs.YtbkmgoffiigdbaaGreatDoor
