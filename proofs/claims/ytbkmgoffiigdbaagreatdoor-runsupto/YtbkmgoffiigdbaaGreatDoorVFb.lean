import Derived.Test.YtbkmgoffiigdbaaGreatDoorVAc
import Derived.Deep.DeepMust
import Derived.Deep.Heap
import Derived.Deep.RegionLaw
namespace Go.Proofs.YtbkmgoffiigdbaaGreatDoor
open Go.RowKit Go.Proofs.Tryz
set_option maxHeartbeats 4000000
set_option maxRecDepth 100000
section
variable {Bk C:Nat->Nat} {W1 w2 w5 wr:World} {cb cc i lb lc q:Nat} {cv:Value} {g:PgR}
def uO (g:PgR) (q:Nat) (W1 wr:World) (i:Nat):Prop :=
 ∃(Bk C:Nat->Nat) (cv:Value),wr.cell? ⟨q,0,none⟩=some cv/\wr.frozen? ⟨q,0,none⟩=false/\wr.ownsRow (q+1) 163 3 cv i (E3 g Bk C i) /\
  (∀j,j < i->U8 (q+1) wr (g.f j) (Bk j) (C j))/\(∀j j',j < i->j' < i->Bk j=Bk j'->j=j')/\Below q W1 wr/\q+1<=wr.heap.size
theorem sP:∀u∈iE,u.oneCell'=true:=by
 intro u hu;simp only[iE,List.mem_cons,List.not_mem_nil,or_false] at hu;rcases hu with rfl | rfl | rfl | rfl <;> rfl
theorem lW (p l:Int) (lb n lc:Nat):∀u∈[Value.int .i64 p,.int .i64 l,.slice (some ⟨lb,0,none⟩) n lc],u.oneCell'=true:=by
 intro u hu;simp only[List.mem_cons,List.not_mem_nil,or_false] at hu;rcases hu with rfl | rfl | rfl <;> rfl
theorem rD:∀u∈[Value.int .i64 (-7070),.int .i64 0,.slice none 0 0],u.oneCell'=true:=by
 intro u hu;simp only[List.mem_cons,List.not_mem_nil,or_false] at hu;rcases hu with rfl | rfl | rfl <;> rfl
theorem iI {B:Nat} {w:World} {f:FnR} (hf:L1 B w f):∀ad,f.a=some ad->∀j u,(J5 f)[j]?=some u->w.cell? (ad.add j)=some u:=by
 intro ad had j u hu;have hj:j < f.n*2:=by
  have:=(L1a.1 hu).1;rwa [show (J5 f).length=f.n*2 from I4 _ _ _] at this
 obtain⟨h1,_,h3⟩:=hf.2 R4;rw[had] at h1;obtain rfl:=Option.some.inj h1;rw[Go.WideShapes.add_plain];have h2:=h3 (j / 2) R4;have hg:=cL (a:=fun j=>.int .i64 (f.op j)) (b:=fun j=>.int .i64 (f.ar j)) (show j / 2 < f.n by omega);rcases Nat.mod_two_eq_zero_or_one j with hm | hm
 ·have e:j / 2*2=j:=by omega
  rw[e] at h2 hg;unfold J5 at hu;rw[hg.1] at hu;rw[<- Option.some.inj hu];exact h2.1
 ·have e:j / 2*2+1=j:=by omega
  have e':f.o+j / 2*2+1=f.o+j:=by omega
  rw[e'] at h2;rw[e] at hg;unfold J5 at hu;rw[hg.2] at hu;rw[<- Option.some.inj hu];exact h2.2
theorem a0E (o:Obj) (hown:wr.ownsRow (q+1) 163 3 cv i (E3 g Bk C i))
  (hcopy:∀j,j < i->U8 (q+1) wr (g.f j) (Bk j) (C j)) (hinj:∀j j',j < i->j' < i->Bk j=Bk j'->j=j') (hbel:Below q W1 wr) (hsz:q+1<=wr.heap.size) (hB2w:Below wr.heap.size wr w2)
  (hcopyN:U8 (wr.heap.size+1) w2 (g.f i) lb lc) (hgrow:(w2.alloc o).grownBy w5 cv.ownBlock)
  (hown5:w5.ownsRow (q+1) 163 3 (.slice (some ⟨cb,0,none⟩) (i+1) cc) (i+1) (E3 g Bk C i++[.int .i64 (g.f i).p,.int .i64 (g.f i).l,.slice (some ⟨lb,0,none⟩) (g.f i).n lc]))
  (hq:w5.cell? ⟨q,0,none⟩=some cv) (hqf:w5.frozen? ⟨q,0,none⟩=false) :
  uO g q W1 (w5.setCell ⟨q,0,none⟩ (.slice (some ⟨cb,0,none⟩) (i+1) cc)) (i+1):=by
 have xa:=hown.lt;have xi:=hB2w.size;obtain⟨xe,xc,_,_,_⟩:=J6 hcopyN;have xg:w2.heap.size+1<=w5.heap.size:=by have:=hgrow.size;simpa using this
 have xd:∀b,b < w2.heap.size->cv.ownBlock≠some b->b≠q->(w5.setCell ⟨q,0,none⟩ (.slice (some ⟨cb,0,none⟩) (i+1) cc)).heap[b]?=w2.heap[b]?:=fun b hb hne hbq=>by
  rw[Below.heap_setCell _ _ _ _ hbq,hgrow.block b Q8 (fun e=>hne e.symm)];exact Below.heap_alloc _ _ _ hb
 refine⟨fun j=>if j=i then lb else Bk j,fun j=>if j=i then lc else C j,.slice (some ⟨cb,0,none⟩) (i+1) cc,by go_simp,by go_simp,?_,fun j hj=>?_,fun j j' hj hj' he=>?_,?_,by simp;omega⟩
 ·have h1:=ownsRow_setCell_below hown5 (a:=⟨q,0,none⟩) R5 (.slice (some ⟨cb,0,none⟩) (i+1) cc)
  have h2:E3 g (fun j=>if j=i then lb else Bk j) (fun j=>if j=i then lc else C j) (i+1)=E3 g Bk C i++[.int .i64 (g.f i).p,.int .i64 (g.f i).l,.slice (some ⟨lb,0,none⟩) (g.f i).n lc]:=by
   unfold E3;rw[Z0,kD (c':=fun j=>.slice (some ⟨Bk j,0,none⟩) (g.f j).n (C j)) (fun j hj=>by simp only [if_neg (show ¬j=i by omega)])];simp
  rw[h2];exact h1
 ·by_cases e:j=i
  ·subst e
   simp only[if_pos];refine E2 (L3 hcopyN (xd lb xc (fun h=>?_) R4)) R4;have:=(xa lb h).2;omega
  ·simp only [if_neg e]
   have hc:=hcopy j R4;obtain⟨h1,h2,_,_,xj,xb⟩:=J6 hc;refine L3 hc ((xd (Bk j) R4 (fun h=>?_) R4).trans (hB2w.block _ h2));rcases hown.2 with ⟨h0,_⟩ | ⟨gb,xh,xf,hv,_,hh,_⟩
   ·rw [h0] at h;cases h
   ·rw [hv] at h
    have:gb=Bk j:=by simpa [Value.ownBlock] using h
    rw[this,xb] at hh;have:=Option.some.inj hh;simp at this
 ·have lt:∀j,j < i->Bk j < lb:=fun j hj=>by have:=(J6 (hcopy j hj)).2.1;omega
  by_cases e:j=i
  ·by_cases e':j'=i
   ·omega
   ·have:=lt j' R4;simp only [if_pos e,if_neg e'] at he;omega
  ·by_cases e':j'=i
   ·have:=lt j R4;simp only [if_neg e,if_pos e'] at he;omega
   ·simp only [if_neg e,if_neg e'] at he;exact hinj j j' R4 R4 he
 ·refine Below.setCell (p:=⟨q,0,none⟩) ?_ (L1c _) _
  have h2:Below q W1 w2:=hbel.trans (hB2w.mono R4);exact (h2.alloc R4 o).grown hgrow Q8 (fun k hk=>by have:=(xa k hk).1;omega)
theorem tC {o:Obj} (hown:wr.ownsRow (q+1) 163 3 cv i (E3 g Bk C i))
  (hcopy:∀j,j < i->U8 (q+1) wr (g.f j) (Bk j) (C j)) (hinj:∀j j',j < i->j' < i->Bk j=Bk j'->j=j') (hbel:Below q W1 wr) (hsz:q+1<=wr.heap.size) (hB2w:Below wr.heap.size wr w2)
  (hcopyN:U8 (wr.heap.size+1) w2 (g.f i) lb lc) (hq2:w2.cell? ⟨q,0,none⟩=some cv) (hf2:w2.frozen? ⟨q,0,none⟩=false) (hgrow:(w2.alloc o).grownBy w5 cv.ownBlock)
  (hown5:w5.ownsRow (q+1) 163 3 (.slice (some ⟨cb,0,none⟩) (i+1) cc) (i+1) (E3 g Bk C i++[.int .i64 (g.f i).p,.int .i64 (g.f i).l,.slice (some ⟨lb,0,none⟩) (g.f i).n lc])) :
  w5.cell? ⟨q,0,none⟩=some cv/\w5.frozen? ⟨q,0,none⟩=false/\uO g q W1 (w5.setCell ⟨q,0,none⟩ (.slice (some ⟨cb,0,none⟩) (i+1) cc)) (i+1):=by
 have xd:=hB2w.size;have xa:some q≠cv.ownBlock:=fun e=>by have:=(hown.lt q e.symm).1;omega
 have xb:w5.cell? ⟨q,0,none⟩=some cv:=by
  rw[hgrow.cell_far ⟨q,0,none⟩ Q8 xa,<- hq2];exact L0b (Below.heap_alloc _ _ _ (by show q < _;omega))
 have xc:w5.frozen? ⟨q,0,none⟩=false:=by
  rw[hgrow.frozen_far ⟨q,0,none⟩ Q8 xa,<- hf2];exact L0c (Below.heap_alloc _ _ _ (by show q < _;omega))
 exact⟨xb,xc,a0E o hown hcopy hinj hbel hsz hB2w hcopyN hgrow hown5 xb xc⟩
theorem a2O (g:PgR) (w:World) (hg:I7 w.heap.size w g) (hr:gV g) :
  Calls prog 54 #[.agg #[.slice g.a g.n g.c]] w fun e w'=>rS g w e w':=by
 have hn:=hg.1;have yt:=hr.1;obtain⟨yp,xx,xt,xw,xo⟩:=info_parts a2E;obtain⟨ym,xv,yd,ya,xu⟩:=info_parts a2F;go_enter func54,ntmps54;go_wp2
 generalize hqW1:(((w.alloc (Obj.cells #[.slice g.a g.n g.c] 41)).alloc (Obj.cells #[.slice none 0 0] 41)).alloc (Obj.cells #[.slice none 0 0] 41))=W1 at *
 have p0:W1.cell? ⟨w.heap.size,0,none⟩=some (.slice g.a g.n g.c):=by subst hqW1;go_simp
 have r0:W1.cell? ⟨w.heap.size+1,0,none⟩=some (.slice none 0 0):=by subst hqW1;go_simp
 have rf:W1.frozen? ⟨w.heap.size+1,0,none⟩=false:=by subst hqW1;go_simp
 have q0:W1.cell? ⟨w.heap.size+1+1,0,none⟩=some (.slice none 0 0):=by subst hqW1;go_simp
 have qf:W1.frozen? ⟨w.heap.size+1+1,0,none⟩=false:=by subst hqW1;go_simp
 have xl:Below w.heap.size w W1:=by subst hqW1;repeat (first | exact Below.refl _ _ | refine Below.alloc ?_ Q1 _)
 have zm:W1.heap.size=w.heap.size+1+1+1:=by subst hqW1;simp
 clear hqW1;obtain⟨q,hq⟩:∃q,q=w.heap.size+1+1:=⟨_,rfl⟩
 rw[<- hq] at q0 qf zm ⊢;have qh:w.heap.size+1 < q:=by omega
 have zy:w.heap.size < q:=by omega
 clear hq;go_loopw [4] (fun v wr=>∃i:Nat,i<=g.n/\v=.int .i64 i/\uO g q W1 wr i) (fun v _=>g.n - (intOf v).toNat)
 case atStart=>exact ⟨0,Nat.zero_le _,rfl,fun _=>0,fun _=>0,.slice none 0 0,q0,qf,World.ownsRow_nil _ _ _ _,fun j hj=>by omega,fun j j' hj=>by omega,Below.refl _ _,by omega⟩
 case round =>
  obtain⟨i,hi,rfl,Bk,C,cv,zt,yw,xc,xh,yc,xa,zw⟩:=hrel;have xi:Below w.heap.size w wr:=xl.trans (xa.mono R4);have k0:wr.cell? ⟨w.heap.size,0,none⟩=some (.slice g.a g.n g.c):=by rw [xa.cell (by show w.heap.size < q;omega)];exact p0
  have qc:w.heap.size < wr.heap.size:=by omega
  have qd:q < wr.heap.size:=by omega
  have xg:=(show Hid _ from xh);clear xh;have xr:=(show Hid _ from yc);clear yc;by_cases hlt:i < g.n
  ·obtain ⟨ha,hb,hc⟩:=hg.2.1 R4
   obtain⟨c0,c1,c2⟩:=hc i hlt;rw[<- xi.cell (p:=⟨g.b,_,none⟩) hb] at c0 c1 c2;clear hc;have qa:g.b < wr.heap.size:=by omega
   rw[ha] at k0;have HA:=(show Hid _ from ha);clear ha;have yk:L1 w.heap.size wr (g.f i):=(hg.2.2 i hlt).below xi;obtain⟨zh,xj⟩:=hr.2 i hlt;have xk:L1 w.heap.size (wr.alloc (Obj.cells #[.int .i64 (g.f i).p,.int .i64 (g.f i).l,.slice (g.f i).a (g.f i).n (g.f i).c] 163)) (g.f i):=yk.below ((Below.refl _ _).alloc R4 _);have yl:=(show Hid _ from xj);clear xj;go_wp2_with (at_builtin;refine bY _ rfl (.tmp 19) (.tmp 21) 161 rfl (wr.heap.size+1) 165 ym _ 2 16 underlying161 xv yd ya xu rfl R3 rfl (g.f i).a (g.f i).n (g.f i).c (J5 (g.f i)) rfl (I4 _ _ _) yl.out (iI xk) jK Q5 R4 R5 ?_)
   intro lv w1 hown1 hgrow1;have yr:(wr.alloc (Obj.cells #[.int .i64 (g.f i).p,.int .i64 (g.f i).l,.slice (g.f i).a (g.f i).n (g.f i).c] 163)).heap.size=wr.heap.size+1:=by simp
   have yn:Below (wr.alloc (Obj.cells #[.int .i64 (g.f i).p,.int .i64 (g.f i).l,.slice (g.f i).a (g.f i).n (g.f i).c] 163)).heap.size (wr.alloc (Obj.cells #[.int .i64 (g.f i).p,.int .i64 (g.f i).l,.slice (g.f i).a (g.f i).n (g.f i).c] 163)) w1:=⟨hgrow1.os,hgrow1.tape,hgrow1.output,hgrow1.size,fun k hk=>hgrow1.block k hk R5⟩;have yj:(wr.alloc (Obj.cells #[.int .i64 (g.f i).p,.int .i64 (g.f i).l,.slice (g.f i).a (g.f i).n (g.f i).c] 163)).heap.size<=w1.heap.size:=hgrow1.size
   have xz:=hown1.lt;have xs:=(show Hid _ from xz);clear xz hgrow1;go_wp2_with (at_builtin;go_must (refine wpList_append_lies _ rfl (.tmp 23) (.tmp 26) 161 rfl (wr.heap.size+1) 165 ym _ 2 16 underlying161 xv yd ya xu rfl R3 lv (g.f i).n (J5 (g.f i)) rfl (hown1.alloc _) ⟨w1.heap.size,0,none⟩ 2 2 iE rfl rfl (World.news_of_block (cs:=#[.int .i64 (-7070),.int .i64 0,.int .i64 (-7070),.int .i64 0]) (t:=165) (fr:=(0,0)) (Go.Deep.blk_alloc_new _ _)) sP R4 Q5 R4 Q8 (w1.heap.size+1) R5 ?_))
   intro lb lc w2 hown2 hgrow2 hat2 hlt2;have xb:Below (wr.alloc (Obj.cells #[.int .i64 (g.f i).p,.int .i64 (g.f i).l,.slice (g.f i).a (g.f i).n (g.f i).c] 163)).heap.size (wr.alloc (Obj.cells #[.int .i64 (g.f i).p,.int .i64 (g.f i).l,.slice (g.f i).a (g.f i).n (g.f i).c] 163)) w2:=yn.trans ⟨hgrow2.os,hgrow2.tape,hgrow2.output,Nat.le_trans R5 hgrow2.size,fun k hk=>by
    rw[hgrow2.block k Q8 (fun e=>by have:=(xs.out k e.symm).1;omega)];exact Below.heap_alloc _ _ _ R4⟩
   have xm:U8 (wr.heap.size+1) w2 (g.f i) lb lc:=hown2;obtain⟨yb,zu,zs,zc,_⟩:=J6 hown2;have xp:w2.ownsRow (q+1) 163 3 cv i (E3 g Bk C i):=by
    refine (xc.alloc _).kept (row:=none) ⟨xb.os,xb.tape,xb.output,xb.size,fun k hk _=>xb.block k hk⟩ ?_
    cases hv:cv.ownBlock with
    | none=>exact Or.inl rfl
    | some k=>exact Or.inr R5
   have x0:w2.cell? ⟨wr.heap.size,0,none⟩=some (.int .i64 (g.f i).p):=by rw [xb.cell R5];go_simp
   have x1:w2.cell? ⟨wr.heap.size,1,none⟩=some (.int .i64 (g.f i).l):=by rw [xb.cell R5];go_simp
   have x2:w2.cell? ⟨wr.heap.size,2,none⟩=some (.slice (g.f i).a (g.f i).n (g.f i).c):=by rw [xb.cell R5];go_simp
   have xq:w2.cell? ⟨q,0,none⟩=some cv:=by rw [xb.cell Q8];go_simp
   have xf:w2.frozen? ⟨q,0,none⟩=false:=by rw [xb.frozen Q8];go_simp
   have yi:Below wr.heap.size wr w2:=((Below.refl _ _).alloc (L1c _) _).trans (xb.mono R5);have yu:wr.heap.size+1<=w2.heap.size:=by rw [<- yr];exact xb.size
   have zn:((g.f i).n:Int)<=(lc:Int):=by omega
   have yy:wr.heap.size+1<=lb:=yb;clear hgrow2 hown1 yn xs yj hat2 xb c0 c1 c2 k0 zt yw hown2 xk yr yb;obtain⟨fb,yh⟩:∃fb,fb=wr.heap.size:=⟨_,rfl⟩
   rw[<- yh] at x0 x1 x2 ⊢;have ze:fb < w2.heap.size:=by omega
   have zi:q < w2.heap.size:=by omega
   have zj:q < fb:=by omega
   have xd:∀k,cv.ownBlock=some k->q+1<=k/\k < wr.heap.size:=xc.lt
   have yv:=(show Hid _ from xd);clear xd;have qb:=(show Hid _ from yh);clear yh;go_wp2_with fail;go_region_law ((refine step_append_lies _ rfl (.tmp 29) (.tmp 40) 39 rfl (q+1) 163 yp _ 3 40 underlying39 xx xt xw xo rfl R3 cv i (E3 g Bk C i) (by first | rfl | simp [Act.eval,Act.put]) (by exact xp.alloc _) ⟨w2.heap.size,0,none⟩ 1 1 [.int .i64 (g.f i).p,.int .i64 (g.f i).l,.slice (some ⟨lb,0,none⟩) (g.f i).n lc] (by first | rfl | simp [Act.eval,Act.put]) rfl (World.news_of_block (cs:=#[.int .i64 (g.f i).p,.int .i64 (g.f i).l,.slice (some ⟨lb,0,none⟩) (g.f i).n lc]) (t:=163) (fr:=(0,0)) (by exact Go.Deep.blk_alloc_new _ _)) (lW _ _ _ _ _) R4 Q5 R4 Q8 (w2.heap.size+1) R5 ?_;intro cb cc w5 hown5 hgrow5 hat5 hlt5;obtain ⟨yq,yf,zx⟩:=tC xc xg.out xr.out xa zw yi xm xq xf ⟨hgrow5.os,hgrow5.tape,hgrow5.output,hgrow5.size,hgrow5.block⟩ hown5;clear hown5 hgrow5 hat5 hlt5))
   all_goals
    go_wp2_with fail;go_roundw
    case rel=>exact ⟨i+1,by omega,by go_num,zx⟩
    case measure=>simp [intOf];omega
  ·have zk:i=g.n:=by omega
   subst zk;clear k0;have zp:w.heap.size+1 < wr.heap.size:=by omega
   have k0:wr.cell? ⟨w.heap.size,0,none⟩=some (.slice g.a g.n g.c):=by rw [xa.cell (by show w.heap.size < q;omega)];exact p0
   have m0:wr.cell? ⟨w.heap.size+1,0,none⟩=some (.slice none 0 0):=by rw [xa.cell (by show w.heap.size+1 < q;omega)];exact r0
   have mf:wr.frozen? ⟨w.heap.size+1,0,none⟩=false:=by rw [xa.frozen (by show w.heap.size+1 < q;omega)];exact rf
   go_wp2_with (at_builtin;go_must (refine wpList_append_lies _ rfl (.tmp 44) (.tmp 46) 39 rfl (q+1) 163 yp _ 3 40 underlying39 xx xt xw xo rfl R3 cv g.n (E3 g Bk C g.n) rfl (xc.alloc _) ⟨wr.heap.size,0,none⟩ 1 1 [.int .i64 (-7070),.int .i64 0,.slice none 0 0] rfl rfl (World.news_of_block (cs:=#[.int .i64 (-7070),.int .i64 0,.slice none 0 0]) (t:=163) (fr:=(0,0)) (Go.Deep.blk_alloc_new _ _)) rD R4 Q5 R4 Q8 (wr.heap.size+1) R5 ?_))
   intro cb cc w5 hown5 hgrow5 hat5 hlt5;have xd:=xc.lt;have xn:∀b,b < q+1->some b≠cv.ownBlock:=fun b hb e=>by have:=(xd b e.symm).1;omega
   have qg:wr.heap.size+1<=w5.heap.size:=by have:=hgrow5.size;simpa using this
   have z0:w5.cell? ⟨w.heap.size,0,none⟩=some (.slice g.a g.n g.c):=by rw [hgrow5.cell_far _ Q8 (xn _ (by show w.heap.size < q+1;omega))];go_simp
   have z1:w5.cell? ⟨w.heap.size+1,0,none⟩=some (.slice none 0 0):=by rw [hgrow5.cell_far _ Q8 (xn _ (by show w.heap.size+1 < q+1;omega))];go_simp
   have z2:w5.frozen? ⟨w.heap.size+1,0,none⟩=false:=by rw [hgrow5.frozen_far _ Q8 (xn _ (by show w.heap.size+1 < q+1;omega))];go_simp
   have zq:w5.cell? ⟨q,0,none⟩=some cv:=by rw [hgrow5.cell_far _ Q8 (xn _ (by show q < q+1;omega))];go_simp
   have zf:w5.frozen? ⟨q,0,none⟩=false:=by rw [hgrow5.frozen_far _ Q8 (xn _ (by show q < q+1;omega))];go_simp
   obtain⟨zl,zr,zd,zo,_⟩:=J6 hown5;have xy:Below q W1 w5:=(xa.alloc R4 _).grown hgrow5 Q8 (fun k hk=>by have:=(xd k hk).1;omega);have xe:∀j,j < g.n->U8 (q+1) w5 (g.f j) (Bk j) (C j):=fun j hj=>by
    have hc:=xg.out j hj;obtain⟨h1,h2,_,_,qe,yg⟩:=J6 hc;refine L3 hc ?_;rw[hgrow5.block (Bk j) Q8 (fun h=>?_)]
    ·exact Below.heap_alloc _ _ _ h2
    ·rcases xc.2 with ⟨h0,_⟩ | ⟨gb,zz,za,hv,_,hh,_⟩
     ·rw [h0] at h;cases h
     ·rw [hv] at h
      have:Bk j=gb:=by simpa [Value.ownBlock] using h
      rw[<- this,yg] at hh;have:=Option.some.inj hh;simp at this
   have yx:=(show Hid _ from xe);clear xe;have zv:(g.n:Int)<=(cc:Int):=by omega
   have yz:w.heap.size < w5.heap.size:=by omega
   have yo:w.heap.size+1 < w5.heap.size:=by omega
   have zb:q < w5.heap.size:=by omega
   clear hgrow5 hat5 hlt5 xd xn;go_wp2_with fail;have zg:¬q=w.heap.size+1:=by omega
   have ys:¬w.heap.size+1=q:=by omega
   have ye:(((w5.setCell ⟨q,0,none⟩ (.slice (some ⟨cb,0,none⟩) (g.n+1) cc)).setCell ⟨q,0,none⟩ (.slice (some ⟨cb,0,none⟩) g.n cc)).setCell ⟨w.heap.size+1,0,none⟩ (.slice (some ⟨cb,0,none⟩) g.n cc)).cell? ⟨w.heap.size+1,0,none⟩=some (.slice (some ⟨cb,0,none⟩) g.n cc):=by go_light;go_simp
   refine bodyPost_ret (v:=.agg #[.slice (some ⟨cb,0,none⟩) g.n cc]) (by simp [results,results54,go_sem,ye]) rfl ⟨Bk,C,cb,cc,rfl,?_,fun j hj=>?_,xr.out,?_⟩
   ·exact E2 (ownsRow_setCell_below (ownsRow_setCell_below (ownsRow_setCell_below hown5 (a:=⟨q,0,none⟩) (by show q < q+1;omega) _) (a:=⟨q,0,none⟩) (by show q < q+1;omega) _) (a:=⟨w.heap.size+1,0,none⟩) (by show w.heap.size+1 < q+1;omega) _) R4
   ·have hc:=yx.out j hj
    have h1:=(J6 hc).1;refine E2 (L3 hc ?_) R4;rw[Below.heap_setCell _ _ _ _ (by show Bk j≠w.heap.size+1;omega),Below.heap_setCell _ _ _ _ (by show Bk j≠q;omega),Below.heap_setCell _ _ _ _ (by show Bk j≠q;omega)]
   ·exact (((xl.trans (xy.mono R4)).setCell (p:=⟨q,0,none⟩) (by show w.heap.size<=q;omega) _).setCell (p:=⟨q,0,none⟩) (by show w.heap.size<=q;omega) _).setCell (p:=⟨w.heap.size+1,0,none⟩) (by show w.heap.size<=w.heap.size+1;omega) _
end
end Go.Proofs.YtbkmgoffiigdbaaGreatDoor
