import Derived.Test.YtbkmgoffiigdbaaGreatDoorVBg
namespace Go.Proofs.YtbkmgoffiigdbaaGreatDoor
open Go.RowKit Go.Sort Go.Proofs.Tryz
set_option maxHeartbeats 4000000
set_option maxRecDepth 100000
section
variable {Bk C:Nat->Nat} {g:PgR} {q:Nat}
def nJ (B:Nat) (w:World) (f:FnR) (b c:Nat):Prop:=w.ownsRow B 165 2 (.slice (zA b) f.n c) f.n (L1 f)
def a1v (g:PgR) (q:Nat) (W1 wr:World) (i:Nat):Prop :=
 ∃(Bk C:Nat->Nat) (cv:Value),wr.cell? ⟨q,0,none⟩=some cv/\wr.frozen? ⟨q,0,none⟩=false/\wr.ownsRow (q+1) 163 3 cv i (E4 g Bk C i) /\
  (∀j,j < i->nJ (q+1) wr (g.f j) (Bk j) (C j))/\Below q W1 wr/\q+1<=wr.heap.size
theorem tO {W1 wr w2 w5:World} {i:Nat} {cv:Value} {lb lc cb cc:Nat} {o:Obj} (hown:wr.ownsRow (q+1) 163 3 cv i (E4 g Bk C i))
  (hcopy:∀j,j < i->nJ (q+1) wr (g.f j) (Bk j) (C j)) (hbel:Below q W1 wr) (hsz:q+1<=wr.heap.size) (hB2w:L0d wr w2)
  (hcopyN:nJ (wr.heap.size+1) w2 (g.f i) lb lc) (hq2:w2.cell? ⟨q,0,none⟩=some cv) (hf2:w2.frozen? ⟨q,0,none⟩=false) (hgrow:(w2.alloc o).grownBy w5 cv.ownBlock)
  (hown5:w5.ownsRow (q+1) 163 3 (.slice (zA cb) (i+1) cc) (i+1) (E4 g Bk C i++[J (g.f i).p,J (g.f i).l,.slice (zA lb) (g.f i).n lc])) :
  w5.cell? ⟨q,0,none⟩=some cv/\w5.frozen? ⟨q,0,none⟩=false/\a1v g q W1 (w5.setCell ⟨q,0,none⟩ (.slice (zA cb) (i+1) cc)) (i+1):=by
 have xj:=hB2w.size;have xb:some q≠cv.ownBlock:=fun e=>by have:=(hown.lt q e.symm).1;omega
 have hq:w5.cell? ⟨q,0,none⟩=some cv:=by
  rw[hgrow.cell_far ⟨q,0,none⟩ Q9 xb,<- hq2];exact L0b (Below.heap_alloc _ _ _ (by show q < _;omega))
 have xf:w5.frozen? ⟨q,0,none⟩=false:=by
  rw[hgrow.frozen_far ⟨q,0,none⟩ Q9 xb,<- hf2];exact L0c (Below.heap_alloc _ _ _ (by show q < _;omega))
 refine⟨hq,xf,?_⟩;have xa:=hown.lt;obtain⟨xh,xd,_,_,_⟩:=J5 hcopyN;have xk:w2.heap.size+1<=w5.heap.size:=by have:=hgrow.size;simpa using this
 have xe:∀b,b < w2.heap.size->cv.ownBlock≠some b->b≠q->(w5.setCell ⟨q,0,none⟩ (.slice (zA cb) (i+1) cc)).heap[b]?=w2.heap[b]?:=fun b hb xb hbq=>by
  rw[Below.heap_setCell _ _ _ _ hbq,hgrow.block b Q9 (fun e=>xb e.symm)];exact Below.heap_alloc _ _ _ hb
 refine⟨fun j=>if j=i then lb else Bk j,fun j=>if j=i then lc else C j,.slice (zA cb) (i+1) cc,by go_simp,by go_simp,?_,fun j hj=>?_,?_,by simp;omega⟩
 ·have h1:=ownsRow_setCell_below hown5 (a:=⟨q,0,none⟩) R6 (.slice (zA cb) (i+1) cc)
  have h2:E4 g (fun j=>if j=i then lb else Bk j) (fun j=>if j=i then lc else C j) (i+1)=E4 g Bk C i++[J (g.f i).p,J (g.f i).l,.slice (zA lb) (g.f i).n lc]:=by
   unfold E4;rw[aZ,mG (c':=fun j=>.slice (some ⟨Bk j,0,none⟩) (g.f j).n (C j)) (fun j hj=>by simp only [if_neg (show ¬j=i by omega)])];simp
  rw[h2];exact h1
 ·by_cases e:j=i
  ·subst e
   simp only[if_pos];refine E1 (K5 hcopyN (xe lb xd (fun h=>?_) R5)) R5;have:=(xa lb h).2;omega
  ·simp only [if_neg e]
   have hc:=hcopy j R5;obtain⟨h1,h2,_,_,xi,xc⟩:=J5 hc;refine K5 hc ((xe (Bk j) R5 (fun h=>?_) R5).trans (hB2w.block _ h2));rcases hown.2 with ⟨h0,_⟩ | ⟨gb,xl,xg,hv,_,hh,_⟩
   ·rw [h0] at h;cases h
   ·rw [hv] at h
    have:gb=Bk j:=by simpa [Value.ownBlock] using h
    rw[this,xc] at hh;have:=L5b hh;simp at this
 ·refine Below.setCell (p:=⟨q,0,none⟩) ?_ (L1c _) _
  have h2:Below q W1 w2:=hbel.trans (hB2w.mono R5);exact (h2.alloc R5 o).grown hgrow Q9 (fun k hk=>by have:=(xa k hk).1;omega)
theorem a3t {w wf:World} {fb fc:Nat} (hrow:wf.ownsRow (q+1) 163 3 (.slice (zA fb) g.n fc) g.n (E4 g Bk C g.n)) (hcode:∀j,j < g.n->nJ (q+1) wf (g.f j) (Bk j) (C j)) (hB:L0d w wf) (hq:w.heap.size<=q) (hn:g.n<=1000) (hc:∀j,j < g.n->(g.f j).n<=1000) :
  cH g w (.returned (.agg #[.slice (zA fb) g.n fc])) wf:=by
 refine⟨⟨some ⟨fb,0,none⟩,g.n,fc,fb,0,fun j=>{ g.f j with a:=some ⟨Bk j,0,none⟩,c:=C j,b:=Bk j,o:=0 }⟩,rfl,⟨by show g.n<=_;omega,fun _=>?_,fun i hi=>⟨by show (g.f i).n<=_;have:=hc i hi;omega,fun _=>?_⟩⟩,?_,hB,rfl,fun j hj=>⟨rfl,rfl,rfl,rfl,rfl⟩⟩
 ·refine ⟨rfl,(J5 hrow).2.1,fun i hi=>?_⟩
  have xb:i < g.n:=hi;obtain⟨q0,q1,q2⟩:=rI (a:=fun j=>Value.int .i64 (g.f j).p) (b:=fun j=>Value.int .i64 (g.f j).l) (c:=fun j=>Value.slice (some ⟨Bk j,0,none⟩) (g.f j).n (C j)) xb;have e0:=hrow.cellAt (i*3) R5;have e1:=hrow.cellAt (i*3+1) R5;have e2:=hrow.cellAt (i*3+2) R5;simp only[Nat.zero_add];exact⟨e0.trans q0,e1.trans q1,e2.trans q2⟩
 ·have h3:=hcode i hi
  refine⟨rfl,(J5 h3).2.1,fun j hj=>?_⟩;have xa:j < (g.f i).n:=hj;obtain⟨q1,q2⟩:=eB (a:=fun j=>Value.int .i64 ((g.f i).op j)) (b:=fun j=>Value.int .i64 ((g.f i).ar j)) xa;have e0:=h3.cellAt (j*2) R5;have e1:=h3.cellAt (j*2+1) R5;simp only[Nat.zero_add];exact⟨e0.trans q1,e1.trans q2⟩
 ·rintro k (⟨_,rfl⟩ | ⟨i,hi,_,rfl⟩)
  ·have:=(J5 hrow).1
   omega
  ·have:=(J5 (hcode i hi)).1
   show w.heap.size<=Bk i;omega
theorem a3s (g:PgR) (w:World) (hg:I9 w.heap.size w g) (hn1:1<=g.n) (hn8:g.n<=1000) (hcn:∀j,j < g.n->1<=(g.f j).n/\(g.f j).n<=1000) :
  Calls prog 93 #[.agg #[.slice g.a g.n g.c]] w fun e w'=>cH g w e w':=by
 obtain⟨yt,ya,yb,yc,xz⟩:=info_parts a5e;obtain⟨ym,xy,xw,xv,xt⟩:=info_parts a5f;go_enter func93,ntmps93;go_wp2_with fail;generalize hqW1:(((w.alloc (Obj.cells #[.slice g.a g.n g.c] 41)).alloc (Obj.cells #[zD] 41)).alloc (Obj.cells #[zD] 41))=W1 at *
 have p0:W1.cell? ⟨w.heap.size,0,none⟩=some (.slice g.a g.n g.c):=by subst hqW1;go_simp
 have r0:W1.cell? ⟨w.heap.size+1,0,none⟩=some zD:=by subst hqW1;go_simp
 have rf:W1.frozen? ⟨w.heap.size+1,0,none⟩=false:=by subst hqW1;go_simp
 have q0:W1.cell? ⟨w.heap.size+1+1,0,none⟩=some zD:=by subst hqW1;go_simp
 have qf:W1.frozen? ⟨w.heap.size+1+1,0,none⟩=false:=by subst hqW1;go_simp
 have xl:L0d w W1:=by subst hqW1;repeat (first | exact L3b _ _ | refine L3a ?_ Q1 _)
 have yj:W1.heap.size=w.heap.size+1+1+1:=by subst hqW1;simp
 clear hqW1;obtain⟨q,hq⟩:∃q,q=w.heap.size+1+1:=⟨_,rfl⟩
 rw[<- hq] at q0 qf yj ⊢;have yx:w.heap.size+1 < q:=by omega
 have zb:w.heap.size < q:=by omega
 clear hq;go_loopw [4] (fun v wr=>∃i:Nat,i<=g.n/\v=J i/\a1v g q W1 wr i) (fun v _=>g.n - (intOf v).toNat)
 case atStart=>exact ⟨0,L4c _,rfl,fun _=>0,fun _=>0,zD,q0,qf,World.ownsRow_nil _ _ _ _,fun j hj=>by omega,L3b _ _,by omega⟩
 case round =>
  obtain⟨i,hi,rfl,Bk,C,cv,yr,yf,xc,xg,xb,yg⟩:=hrel;have xa:L0d w wr:=xl.trans (xb.mono R5);have k0:wr.cell? ⟨w.heap.size,0,none⟩=some (.slice g.a g.n g.c):=by rw [xb.cell (by show w.heap.size < q;omega)];exact p0
  have yw:w.heap.size < wr.heap.size:=by omega
  have za:q < wr.heap.size:=by omega
  have xe:=(show Hid _ from xg);clear xg;by_cases hlt:i < g.n
  ·obtain ⟨ha,hb,hc⟩:=hg.2.1 R5
   obtain⟨c0,c1,c2⟩:=hc i hlt;rw[<- xa.cell (p:=⟨g.b,_,none⟩) hb] at c0 c1 c2;clear hc;have yz:g.b < wr.heap.size:=by omega
   rw[ha] at k0;have HA:=(show Hid _ from ha);clear ha;have xj:N2 w.heap.size wr (g.f i):=(hg.2.2 i hlt).below xa;obtain⟨yv,zc⟩:=hcn i hlt;have xh:N2 w.heap.size (wr.alloc (Obj.cells #[J (g.f i).p,J (g.f i).l,.slice (g.f i).a (g.f i).n (g.f i).c] 163)) (g.f i):=xj.below ((L3b _ _).alloc R5 _);have xx:Hid ((g.f i).a=none->(g.f i).n=0/\(g.f i).c=0):=hid fun e=>by have:=(xj.2 R5).1;rw [e] at this;cases this
   go_wp2_with (at_builtin;refine dE _ rfl (.tmp 19) (.tmp 21) 161 rfl (wr.heap.size+1) 165 ym _ 2 16 underlying161 xy xw xv xt rfl R4 rfl (g.f i).a (g.f i).n (g.f i).c (L1 (g.f i)) rfl (I6 _ _ _) xx.out (kG xh) lJ Q7 R5 R6 ?_)
   intro lv w1 hown1 hgrow1;have xd:Below (wr.alloc (Obj.cells #[J (g.f i).p,J (g.f i).l,.slice (g.f i).a (g.f i).n (g.f i).c] 163)).heap.size (wr.alloc (Obj.cells #[J (g.f i).p,J (g.f i).l,.slice (g.f i).a (g.f i).n (g.f i).c] 163)) w1:=⟨hgrow1.os,hgrow1.tape,hgrow1.output,hgrow1.size,fun k hk=>hgrow1.block k hk R6⟩;have yq:wr.heap.size+1<=w1.heap.size:=by have:=hgrow1.size;simpa using this
   obtain⟨lb,lc,rfl⟩:∃lb lc,lv=.slice (some ⟨lb,0,none⟩) (g.f i).n lc:=by
    rcases hown1.2 with ⟨_,h0⟩ | ⟨gb,xs,ys,hv,_⟩
    ·omega
    ·exact ⟨gb,xs,hv⟩
   have xi:w1.ownsRow (q+1) 163 3 cv i (E4 g Bk C i):=by
    refine (xc.alloc _).kept (row:=none) ⟨xd.os,xd.tape,xd.output,xd.size,fun k hk _=>xd.block k hk⟩ ?_
    cases hv:cv.ownBlock with
    | none=>exact L4a rfl
    | some k=>exact L4b R6
   have x0:w1.cell? ⟨wr.heap.size,0,none⟩=some (J (g.f i).p):=by rw [xd.cell R6];go_simp
   have x1:w1.cell? ⟨wr.heap.size,1,none⟩=some (J (g.f i).l):=by rw [xd.cell R6];go_simp
   have xq:w1.cell? ⟨q,0,none⟩=some cv:=by rw [xd.cell Q9];go_simp
   have xf:w1.frozen? ⟨q,0,none⟩=false:=by rw [xd.frozen Q9];go_simp
   have xm:L0d wr w1:=((L3b _ _).alloc (L1c _) _).trans (xd.mono R6);have yi:Hid (nJ (wr.heap.size+1) w1 (g.f i) lb lc):=hid hown1;have yd:=hid xb;have xu:=hid xm;have xk:=hid xc;have xo:=hid xi;clear hgrow1 hown1 xd c0 c1 c2 k0 yr yf xh xb xa xm xc xi xj;obtain⟨fb,xp⟩:∃fb,fb=wr.heap.size:=⟨_,rfl⟩
   rw[<- xp] at x0 x1 ⊢;have yn:fb < w1.heap.size:=by omega
   have yk:q < w1.heap.size:=by omega
   have yl:q < fb:=by omega
   have yy:=(show Hid _ from xp);clear xp;go_wp2_with (at_builtin;go_must (refine wpList_append_lies _ rfl (.tmp 24) (.tmp 31) 39 rfl (q+1) 163 yt _ 3 40 underlying39 ya yb yc xz rfl R4 cv i (E4 g Bk C i) rfl (xo.out.alloc _) ⟨w1.heap.size,0,none⟩ 1 1 [J (g.f i).p,J (g.f i).l,.slice (zA lb) (g.f i).n lc] rfl rfl (World.news_of_block (cs:=#[J (g.f i).p,J (g.f i).l,.slice (zA lb) (g.f i).n lc]) (t:=163) (fr:=(0,0)) (Go.Deep.blk_alloc_new _ _)) (oN _ _ _ _ _) R5 Q7 R5 Q9 (w1.heap.size+1) R6 ?_))
   intro cb cc w5 hown5 hgrow5 hat5 hlt5;obtain⟨y0,y1,ye⟩:=tO xk.out xe.out yd.out yg xu.out yi.out xq xf hgrow5 hown5;have yo:q < w5.heap.size:=by have:=hgrow5.size;simp at this;omega
   have yp:=hid ye;clear ye hgrow5 hown5 hat5 hlt5;go_wp2_with fail;go_roundw
   case rel=>exact ⟨i+1,by omega,by go_num,yp.out⟩
   case measure=>simp [intOf];omega
  ·have yh:i=g.n:=by omega
   subst yh;obtain⟨cb,cc,rfl⟩:∃cb cc,cv=.slice (some ⟨cb,0,none⟩) g.n cc:=by
    rcases xc.2 with ⟨_,h0⟩ | ⟨gb,xs,ys,hv,_⟩
    ·omega
    ·exact ⟨gb,xs,hv⟩
   have yu:w.heap.size+1 < wr.heap.size:=by omega
   have m0:wr.cell? ⟨w.heap.size+1,0,none⟩=some zD:=by rw [xb.cell (by show w.heap.size+1 < q;omega)];exact r0
   have mf:wr.frozen? ⟨w.heap.size+1,0,none⟩=false:=by rw [xb.frozen (by show w.heap.size+1 < q;omega)];exact rf
   have xr:(wr.setCell ⟨w.heap.size+1,0,none⟩ (.slice (zA cb) g.n cc)).cell? ⟨w.heap.size+1,0,none⟩=some (.slice (zA cb) g.n cc):=by go_simp
   have xk:=hid xc;have xn:=hid xa;clear xc xa xb;go_wp2_with fail;refine bodyPost_ret (v:=.agg #[.slice (zA cb) g.n cc]) (by simp [results,results93,go_sem,xr]) rfl (a3t (ownsRow_setCell_below xk.out (a:=⟨w.heap.size+1,0,none⟩) (by show w.heap.size+1 < q+1;omega) _) (fun j hj=>?_) (xn.out.setCell (p:=⟨w.heap.size+1,0,none⟩) (by show w.heap.size<=w.heap.size+1;omega) _) R5 hn8 (fun j hj=>(hcn j hj).2))
   exact ownsRow_setCell_below (xe.out j hj) (a:=⟨w.heap.size+1,0,none⟩) (by show w.heap.size+1 < q+1;omega) _
end
abbrev a9w : Oper := ⟨some 32,.load 66 (.tmp 31),66,"machine.go:33",#[⟨3,.data⟩],none⟩
abbrev a9Q : Oper := ⟨some 38,.makeSlice 84 (.tmp 37) (.tmp 37),84,"machine.go:33",#[⟨9,.data⟩,⟨9,.data⟩],none⟩
abbrev a9R : Oper := ⟨some 39,.build 86 #[(2,.tmp 38)],86,"machine.go:33",#[⟨10,.data⟩],none⟩
abbrev a9x : Oper := ⟨some 40,.buildSlice 66 1 #[(0,.tmp 39)],66,"machine.go:33",#[⟨11,.data⟩],none⟩
abbrev a9y : Oper := ⟨some 41,.call ⟨.builtin .append,#[.tmp 32,.tmp 40],#[66,66]⟩,66,"machine.go:33",#[⟨4,.data⟩,⟨12,.data⟩],none⟩
abbrev a9z : Oper := ⟨some 42,.nilCheck (.tmp 28),0,"machine.go:33",#[⟨0,.data⟩,⟨0,.phase⟩,⟨1,.phase⟩,⟨2,.phase⟩,⟨3,.phase⟩,⟨4,.phase⟩,⟨5,.phase⟩,⟨6,.phase⟩,⟨7,.phase⟩,⟨8,.phase⟩,⟨9,.phase⟩,⟨10,.phase⟩,⟨11,.phase⟩,⟨12,.phase⟩,⟨13,.phase⟩],none⟩
abbrev a9A : Oper := ⟨some 43,.fieldAddr 69 (.tmp 42) 4,0,"machine.go:33",#[⟨14,.data⟩,⟨0,.phase⟩,⟨1,.phase⟩,⟨2,.phase⟩,⟨3,.phase⟩,⟨4,.phase⟩,⟨5,.phase⟩,⟨6,.phase⟩,⟨7,.phase⟩,⟨8,.phase⟩,⟨9,.phase⟩,⟨10,.phase⟩,⟨11,.phase⟩,⟨12,.phase⟩,⟨13,.phase⟩],none⟩
abbrev a9B : Oper := ⟨none,.store 66 (.tmp 43) (.tmp 41),0,"machine.go:33",#[⟨15,.data⟩,⟨13,.data⟩,⟨13,.chain⟩,⟨0,.phase⟩,⟨1,.phase⟩,⟨2,.phase⟩,⟨3,.phase⟩,⟨4,.phase⟩,⟨5,.phase⟩,⟨6,.phase⟩,⟨7,.phase⟩,⟨8,.phase⟩,⟨9,.phase⟩,⟨10,.phase⟩,⟨11,.phase⟩,⟨12,.phase⟩,⟨13,.phase⟩],none⟩
def jC (cap:Nat) (cv lv:Value) (l:Nat):RfR:=⟨cap,0,zD,[],cv,[⟨0,0,lv,zD,List.replicate l (0,0),[]⟩],zD,[],none,0,[]⟩
def dQ (mb:Nat) (cv lv:Value):Own:=fun k=>if k=mb then some .mach else if cv.ownBlock=some k then some .called else if lv.ownBlock=some k then some (.loc 0) else none
theorem a7x {F:World} {mb cap l:Nat} {g:PgR} {cv lv:Value} (hmb:mb < F.heap.size) (hmb0:mb≠0)
  (c0:F.cell? ⟨mb,0,none⟩=some (.slice g.a g.n g.c)) (c1:F.cell? ⟨mb,1,none⟩=some (J (cap:Int))) (c2:F.cell? ⟨mb,2,none⟩=some (J 0)) (c3:F.cell? ⟨mb,3,none⟩=some zD) (c4:F.cell? ⟨mb,4,none⟩=some cv) (c5:F.cell? ⟨mb,5,none⟩=some zD) (c6:F.cell? ⟨mb,6,none⟩=some zD)
  (fz:∀j,F.frozen? ⟨mb,j,none⟩=false) (hcv:F.ownsRow 0 86 4 cv 1 [J 0,J 0,lv,zD]) (hlv:F.ownsRow 0 92 2 lv l (A7 (List.replicate l (0,0)))) (hpg:I9 F.heap.size F g)
  (hc:∀b,cv.ownBlock=some b->b≠mb/\b≠0/\¬g.blk b) (hl:∀b,lv.ownBlock=some b->b≠mb/\b≠0/\¬g.blk b/\cv.ownBlock≠some b) (hg:¬g.blk mb):A9 F (dQ mb cv lv) mb g (jC cap cv lv l):=by
 have oc:∀b,cv.ownBlock=some b->dQ mb cv lv b=some .called:=fun b hb=>by unfold dQ;rw [if_neg (hc b hb).1,if_pos hb]
 have ol:∀b,lv.ownBlock=some b->dQ mb cv lv b=some (.loc 0):=fun b hb=>by unfold dQ;rw [if_neg (hl b hb).1,if_neg (hl b hb).2.2.2,if_pos hb]
 have no:∀k,k≠mb->cv.ownBlock≠some k->lv.ownBlock≠some k->dQ mb cv lv k=none:=fun k h1 h2 h3=>by unfold dQ;rw [if_neg h1,if_neg h2,if_neg h3]
 refine⟨fun k t e=>?_,if_pos rfl,c0,c1,c2,c3,c4,c5,c6,fz,⟨World.ownsRow_nil _ _ _ _,fun b hb=>by cases hb⟩,⟨hcv,oc⟩,⟨World.ownsRow_nil _ _ _ _,fun b hb=>by cases hb⟩,fun i f hf=>?_,fun i f hf=>?_,fun j o ho=>by simp [jC] at ho,hpg,fun k hk=>?_,?_,L1c _,fun h0=>by simp [jC] at h0,fun b o e=>by cases e⟩
 ·unfold dQ at e
  split at e
  ·rename_i h;rw [h];exact hmb
  ·split at e
   ·rename_i h;exact (hcv.lt k h).2
   ·split at e
    ·rename_i h;exact (hlv.lt k h).2
    ·cases e
 ·have hi:i=0:=by
   have:=(L1a.1 hf).1;simp[jC] at this;exact this
  subst hi;have:f=⟨0,0,lv,zD,List.replicate l (0,0),[]⟩:=by simpa [jC] using hf.symm
  subst this;refine⟨?_,ol⟩;show F.ownsRow 0 92 2 lv (List.replicate l ((0,0):Val)).length _;rw[List.length_replicate];exact hlv
 ·have hi:i=0:=by
   have:=(L1a.1 hf).1;simp[jC] at this;exact this
  subst hi;have:f=⟨0,0,lv,zD,List.replicate l (0,0),[]⟩:=by simpa [jC] using hf.symm
  subst this;exact⟨World.ownsRow_nil _ _ _ _,fun b hb=>by cases hb⟩
 ·exact no k (fun e=>hg (e▸hk)) (fun e=>(hc k e).2.2 hk) (fun e=>(hl k e).2.2.1 hk)
 ·exact no 0 (fun e=>hmb0 e.symm) (fun e=>(hc 0 e).2.1 rfl) (fun e=>(hl 0 e).2.1 rfl)
def jS (g:PgR) (cap:Nat) (w:World) (e:Ending) (w':World):Prop :=
 ∃own mb g' cv lv,e=.returned (.tuple #[zB mb,J 0])/\A9 w' own mb g' (jC cap cv lv (g.f 0).l.toNat)/\X6 g g'/\L0d w w'/\(∀k t,own k=some t->w.heap.size<=k)/\∀k,g'.blk k->w.heap.size<=k
theorem a5U {g g':PgR} {w w2 w3 V w4:World} {mb cap l:Nat} {va:Option Addr} {vc:Nat} (hmb:w3.heap.size=mb) (hVs:V.heap.size=mb+1) (h0:0 < w.heap.size) (hs3:w.heap.size < mb) (_hs23:w2.heap.size<=mb) (hs2w:w.heap.size<=w2.heap.size) (hl':l<=8) (hl:(g.f 0).l=(l:Int)) (hpg:I9 w3.heap.size w3 g') (hblk:∀k,g'.blk k->w2.heap.size<=k) (hsame:g'.n=g.n/\∀j,j < g.n->(g'.f j).p=(g.f j).p/\(g'.f j).l=(g.f j).l/\(g'.f j).n=(g.f j).n/\(g'.f j).op=(g.f j).op/\(g'.f j).ar=(g.f j).ar) (hB3:L0d w w3) (hBV:L0d w3 V)
  (hM:∀u,L0d V u->(u.cell? ⟨mb,0,none⟩=some (.slice g'.a g'.n g'.c)/\u.cell? ⟨mb,1,none⟩=some (J (cap:Int))/\u.cell? ⟨mb,2,none⟩=some (J 0)/\u.cell? ⟨mb,3,none⟩=some zD/\u.cell? ⟨mb,4,none⟩=some zD/\u.cell? ⟨mb,5,none⟩=some zD/\u.cell? ⟨mb,6,none⟩=some zD)/\∀j,u.frozen? ⟨mb,j,none⟩=false)
  (hB4:Below ((V.alloc (.cells (madeCells #[zC 0,J 0] (l*2)) 92)).alloc (.cells #[J 0,J 0,.slice (zA V.heap.size) l l,zD] 86)).drew.heap.size ((V.alloc (.cells (madeCells #[zC 0,J 0] (l*2)) 92)).alloc (.cells #[J 0,J 0,.slice (zA V.heap.size) l l,zD] 86)).drew w4) (o4:w4.ownsRow V.heap.size 86 4 (.slice va 1 vc) 1 [J 0,J 0,.slice (zA V.heap.size) l l,zD]) (a4:∀b,(Value.slice va 1 vc).ownBlock=some b->b=V.heap.size+2) :
  jS g cap w (.returned (.tuple #[zB mb,J 0])) (w4.setCell ⟨mb,4,none⟩ (.slice va 1 vc)):=by
  have xb:L0d V w4:=(L3c (L3a (L3a (L3b _ _) (L1c _) _) R6 _)).trans (hB4.mono Q9);obtain⟨⟨c0,c1,c2,c3,c4,c5,c6⟩,fz⟩:=hM _ xb;have xh:mb < w4.heap.size:=L0a R5 xb.size;have xi:w.heap.size<=w2.heap.size:=hs2w;have xc:w4.ownsRow 0 92 2 (.slice (zA V.heap.size) l l) l (A7 (List.replicate l (0,0))):=by
   have e9:(madeCells #[zC 0,J 0] (l*2))=(A7 (List.replicate l ((0,0):Val))).toArray:=by rw [<- aC l,Array.toArray_toList]
   have h9:=World.ownsRow_lit (base:=0) (e:=92) (size:=2) V (A7 (List.replicate l ((0,0):Val))).toArray l (L4c _) Q7 (by simp only [List.size_toArray];rw [D8,List.length_replicate]);rw[<- e9] at h9;have h8:=jE h9 ((L3c (L3a (L3b _ _) (L1c _) (.cells #[J 0,J 0,.slice (zA V.heap.size) l l,zD] 86))).trans (hB4.mono R6))
   rw[e9] at h8;simpa using h8
  have xe:L0d w (w4.setCell ⟨mb,4,none⟩ (.slice va 1 vc)):=((hB3.trans (hBV.mono R5)).trans (xb.mono R5)).setCell (p:=⟨mb,4,none⟩) (by show w.heap.size<=mb;omega) _;have xa:∀k,g'.blk k->w2.heap.size<=k/\k < mb:=fun k hk=>⟨hblk k hk,by have:=hpg.blk_lt hk;omega⟩
  have xd:∀b,(Value.slice (zA V.heap.size) l l).ownBlock=some b->b=V.heap.size:=fun b hb=>by
   have:V.heap.size=b:=by simpa [Value.ownBlock] using hb
   exact this.symm
  refine⟨dQ mb (.slice va 1 vc) (.slice (zA V.heap.size) l l),mb,g',.slice va 1 vc,.slice (zA V.heap.size) l l,rfl,?_,⟨hsame.1,hsame.2⟩,xe,fun k t e=>?_,fun k hk=>by have:=xa k hk;omega⟩
  ·rw [hl,Int.toNat_natCast]
   have o1:=ownsRow_setCell_below (o4) (a:=⟨mb,4,none⟩) (by show mb < V.heap.size;omega) (.slice va 1 vc);have o2:=ownsRow_setCell_other xc (a:=⟨mb,4,none⟩) (by intro e;have h9:mb=V.heap.size:=xd _ e;omega) (.slice va 1 vc);have xg:(w4.setCell ⟨mb,4,none⟩ (.slice va 1 vc)).heap.size=w4.heap.size:=by simp
   refine a7x (by rw [xg];exact xh) R5 ((B9 _ R4).trans c0) ((B9 _ R4).trans c1) ((B9 _ R4).trans c2) ((B9 _ R4).trans c3) (World.cell?_setCell_same _ _ _ c4) ((B9 _ R4).trans c5) ((B9 _ R4).trans c6) (fun j=>by first | (go_simp;done) | (go_simp;exact fz j)) (E1 o1 (L4c _)) o2 ?_ (fun b hb=>?_) (fun b hb=>?_) (fun hk=>by have:=xa _ hk;omega)
   ·have xf:I9 w4.heap.size w4 g':=hpg.held (by have:=xb.size;omega) fun k hk=>by
     have h8:=xa k hk;rw[xb.block k R5,hBV.block k R5]
    exact xf.held R6 fun k hk=>Below.heap_setCell _ _ _ _ (by show k≠mb;have:=xa k hk;omega)
   ·have:=a4 b hb
    exact⟨by omega,by omega,fun hk=>by have:=xa b hk;omega⟩
   ·have h7:=xd b hb
    exact⟨by omega,by omega,fun hk=>by have:=xa b hk;omega,fun e=>by have:=a4 b e;omega⟩
  ·unfold dQ at e
   split at e
   ·omega
   ·split at e
    ·rename_i h;have:=a4 k h;omega
    ·split at e
     ·rename_i h;have:=xd k h;omega
     ·cases e
theorem a5S (g:PgR) (w:World) (hg:I9 w.heap.size w g) (h0:0 < w.heap.size) (hck:J9 g 0 0) (cap:Nat) (h1:1<=cap) (h40:cap<=40) :
  Calls prog 56 #[.agg #[.slice g.a g.n g.c],J (cap:Int)] w fun e w'=>jS g cap w e w':=by
 obtain⟨yp,zb,xw⟩:X7 g:=by
  rcases hck with ⟨_,h⟩ | ⟨h,_⟩
  ·cases h
  ·exact h.all.1
 have xn:∀j,j < g.n->1<=(g.f j).n/\(g.f j).n<=1000:=fun j hj=>by have:=gI (xw j hj);omega
 have yu:=gI (xw 0 R5);obtain⟨l,hl⟩:=L5c (show 0<=(g.f 0).l by omega);have yw:l<=8:=by omega
 have yy:Hid (∀W,L0d w W->Calls prog 59 #[.agg #[.slice g.a g.n g.c]] W fun e w'=>e=.returned (.tuple #[J 0,J 0])/\L0d W w'):=by
  intro W hW;refine (eX g W (hg.held hW.size fun k hk=>hW.block k (hg.blk_lt hk))).mono ?_;rintro e w' ⟨x,a,rfl,hx,hb⟩;obtain⟨rfl,rfl⟩:=hx.unique hck;exact⟨rfl,hb⟩
 have yv:Hid (∀W,L0d w W->Calls prog 93 #[.agg #[.slice g.a g.n g.c]] W fun e w'=>cH g W e w'):=by
  intro W hW;exact a3s g W (hg.held hW.size fun k hk=>hW.block k (hg.blk_lt hk)) yp R5 xn
 obtain⟨ga,gb,gc⟩:=hg.2.1 R5;have x1:=(gc 0 R5).2.1;rw[hl] at x1;have yq:=hid ga;have HL:=hid hl;obtain⟨yc,hi,hz,xk,yk⟩:=info_parts J2;have yl:Hid (∀W:World,(Instr.makeSlice 84 (J (l:Int)) (J (l:Int))).run prog W=.ok (.slice (zA W.heap.size) l l) (W.alloc (.cells (madeCells #[zC 0,J 0] (l*2)) 92))):=by
  intro W;have hr:=run_make (P:=prog) W 84 92 yc _ underlying84 hi hz .i64 .i64 l l R5 (Int.le_refl _) (by rw [yk];omega) R5;simpa [xk,Value.cells] using hr
 have yz:=yl.out;obtain⟨xz,yi,yg,xl,xr⟩:=info_parts jA;have HI:=hid yi;have HZ:=hid yg;have xx:=hid xl;have yd:=hid xr;have za:¬(cap:Int) < 1:=by omega
 have zf:¬(40:Int) < (cap:Int):=by omega
 have zd:(0:Int) < (g.n:Int):=by omega
 have zc:0 < g.n:=by omega
 clear hg hck xw xn yu ga gc hl hi hz xk yk yi yg xl xr yl;go_enter func56,ntmps56;go_wp2_with (first | (go_at_call 59;refine (yy.out _ ?_).mono ?_;exact P8;rintro e w2 ⟨rfl,xu⟩;have xq:L0d w w2:=(L3a (L3b _ _) (L1c _) _).trans (xu.mono R6);have p2:w2.cell? ⟨w.heap.size,0,none⟩=some (.slice g.a g.n g.c):=keep xu R6 R3;have ya:w.heap.size < w2.heap.size:=by have:=xu.size;simp at this;omega) | (go_at_call 93;refine (yv.out _ xq).mono ?_;rintro e w3 ⟨g',rfl,ye,xo,xh,yn,xg⟩;have xv:L0d w w3:=xq.trans (xh.mono xq.size);have p3:=keep xh ya p2;have yj:w.heap.size < w3.heap.size:=L0a ya xh.size;have y1:=keep xv gb x1;have yb:g.b < w3.heap.size:=L0a gb xv.size;have ze:=hid xq;have ys:=hid xv;have yf:=hid ye;have xp:=hid xo;have xf:=hid (And.intro yn xg);have xy:=xh.size;rw [yq.out] at p3;clear xq xv ye xo yn xg xu xh p2))
 simp only[Nat.zero_mul,Nat.add_zero] at y1;generalize hqV:(w3.alloc (Obj.cells #[.slice g'.a g'.n g'.c,J (cap:Int),J 0,zD,zD,zD,zD] 69))=V at *
 have v0:V.cell? ⟨w3.heap.size,0,none⟩=some (.slice g'.a g'.n g'.c):=by subst hqV;go_simp
 have v1:V.cell? ⟨w3.heap.size,1,none⟩=some (J (cap:Int)):=by subst hqV;go_simp
 have v2:V.cell? ⟨w3.heap.size,2,none⟩=some (J 0):=by subst hqV;go_simp
 have v3:V.cell? ⟨w3.heap.size,3,none⟩=some zD:=by subst hqV;go_simp
 have v4:V.cell? ⟨w3.heap.size,4,none⟩=some zD:=by subst hqV;go_simp
 have v5:V.cell? ⟨w3.heap.size,5,none⟩=some zD:=by subst hqV;go_simp
 have v6:V.cell? ⟨w3.heap.size,6,none⟩=some zD:=by subst hqV;go_simp
 have vz:∀j,V.frozen? ⟨w3.heap.size,j,none⟩=false:=by subst hqV;exact fun j=>by go_simp
 have xt:L0d w3 V:=by subst hqV;exact L3a (L3b _ _) (L1c _) _
 have t1:=keep xt yj p3;have t2:=keep xt yb y1;have yo:V.heap.size=w3.heap.size+1:=by subst hqV;simp
 have yh:=hid xt;clear xt p3 y1;clear hqV;generalize hmb:w3.heap.size=mb at *
 have yx:=hid yo;have xj:Hid (I9 w3.heap.size w3 g'):=hid (by rw [hmb];exact yf.out);have xm:Hid (L0d w3 V):=hid yh.out;have xd:mb < V.heap.size:=by omega
 have yt:w.heap.size < V.heap.size:=by omega
 have yr:g.b < V.heap.size:=by omega
 clear yo;have HC:Hid (∀u,L0d V u->u.cell? ⟨w.heap.size,0,none⟩=some (.slice (some ⟨g.b,g.o,none⟩) g.n g.c)/\u.cell? ⟨g.b,g.o+1,none⟩=some (J (l:Int))):=hid fun u hu=>⟨keep hu yt t1,keep hu yr t2⟩
 have HV:Hid (L0d V V.drew):=L3c (L3b _ _);have HM:Hid (∀u,L0d V u->(u.cell? ⟨mb,0,none⟩=some (.slice g'.a g'.n g'.c)/\u.cell? ⟨mb,1,none⟩=some (J (cap:Int))/\u.cell? ⟨mb,2,none⟩=some (J 0)/\u.cell? ⟨mb,3,none⟩=some zD/\u.cell? ⟨mb,4,none⟩=some zD/\u.cell? ⟨mb,5,none⟩=some zD/\u.cell? ⟨mb,6,none⟩=some zD)/\∀j,u.frozen? ⟨mb,j,none⟩=false):=hid fun u hu=>⟨⟨keep hu xd v0,keep hu xd v1,keep hu xd v2,keep hu xd v3,keep hu xd v4,keep hu xd v5,keep hu xd v6⟩,fun j=>E3 hu xd (vz j)⟩
 clear v0 v1 v2 v3 v4 v5 v6 vz t1 t2;refine wp_region_held_drew (S:=fun u=>u.cell? ⟨w.heap.size,0,none⟩=some (.slice (some ⟨g.b,g.o,none⟩) g.n g.c)/\u.cell? ⟨g.b,g.o+1,none⟩=some (J (l:Int))) Q8 (HC.out _ HV.out) (fun hHeld=>?_)
 refine TW 0 ⟨some 28,.move (.tmp 8),46,"machine.go:33",#[],none⟩ ?_
 refine TW 1 ⟨some 29,.move (.tmp 8),46,"machine.go:33",#[],none⟩ ?_
 refine TW 2 ⟨some 30,.nilCheck (.tmp 29),0,"machine.go:33",#[⟨1,.data⟩],none⟩ ?_
 refine TW 3 ⟨some 31,.fieldAddr 69 (.tmp 30) 4,0,"machine.go:33",#[⟨2,.data⟩],none⟩ ?_
 refine TW 5 ⟨some 33,.fieldAddr 41 (.tmp 2) 0,0,"machine.go:33",#[],none⟩ ?_
 refine TW 6 ⟨some 34,.load 39 (.tmp 33),39,"machine.go:33",#[⟨5,.data⟩],none⟩ ?_
 refine TW 7 ⟨some 35,.indexAddr 39 (.tmp 34) (.const (J 0)),0,"machine.go:33",#[⟨6,.data⟩],none⟩ ?_
 refine TW 8 ⟨some 36,.fieldAddr 163 (.tmp 35) 1,0,"machine.go:33",#[⟨7,.data⟩],none⟩ ?_
 refine TW 9 ⟨some 37,.load 3 (.tmp 36),3,"machine.go:33",#[⟨8,.data⟩],none⟩ ?_
 clear hHeld;have xs:Hid (L0d V (V.alloc (.cells (madeCells #[zC 0,J 0] (l*2)) 92)).drew):=hid (L3c (L3a (L3b _ _) (L1c _) _));have xe:Hid (L0d V ((V.alloc (.cells (madeCells #[zC 0,J 0] (l*2)) 92)).alloc (.cells #[J 0,J 0,.slice (zA V.heap.size) l l,zD] 86)).drew):=hid (L3c (L3a (L3a (L3b _ _) (L1c _) _) R6 _))
 have xb:Hid (∀va vc w4,Below ((V.alloc (.cells (madeCells #[zC 0,J 0] (l*2)) 92)).alloc (.cells #[J 0,J 0,.slice (zA V.heap.size) l l,zD] 86)).drew.heap.size ((V.alloc (.cells (madeCells #[zC 0,J 0] (l*2)) 92)).alloc (.cells #[J 0,J 0,.slice (zA V.heap.size) l l,zD] 86)).drew w4->w4.ownsRow V.heap.size 86 4 (.slice va 1 vc) 1 [J 0,J 0,.slice (zA V.heap.size) l l,zD]->(∀b,(Value.slice va 1 vc).ownBlock=some b->b=V.heap.size+2)->jS g cap w (.returned (.tuple #[zB mb,J 0])) (w4.setCell ⟨mb,4,none⟩ (.slice va 1 vc))):=hid fun va vc w4 b4 o4 a4=>a5U hmb yx.out h0 yj xy (Nat.le_of_lt ya) yw HL.out xj.out xp.out xf.out ys.out xm.out (fun u hu=>HM.out u hu) b4 o4 a4
 clear yf xj xp xf yh xm;refine wpAnyH_ready (rs:=[4,10]) Q8 R6 ?_;refine AllReadyH.cons (o:=a9w) rfl (fun K hK=>?_) ?_
 ·have c4:=(HM.out _ HV.out).1.2.2.2.2.1
  go_simp
  refine TG hK (HC.out _ HV.out) fun hHeld=>?_
  clear hK K;clear hHeld c4;refine TO 10 a9Q fun K hK=>?_
  go_simp
  refine TG hK (HC.out _ xs.out) fun hHeld=>?_
  clear hK K;refine TW 11 a9R ?_;clear hHeld;refine TO 12 a9x fun K hK=>?_
  go_simp
  refine TG hK (HC.out _ xe.out) fun hHeld=>?_
  clear hK K;clear hHeld;refine TO 13 a9y fun K hK=>?_
  refine J0 rfl (.tmp 32) (.tmp 40) 66 rfl V.heap.size 86 xz _ 4 64 underlying66 HI.out HZ.out xx.out yd.out rfl R4 zD 0 [] Q3 (World.ownsRow_nil _ _ _ _) (some ⟨V.heap.size+1,0,none⟩) 1 1 [J 0,J 0,.slice (zA V.heap.size) l l,zD] Q3 rfl (fun _=>⟨_,rfl,World.news_of_block (cs:=#[J 0,J 0,.slice (zA V.heap.size) l l,zD]) (t:=86) (fr:=(0,0)) (B0 R6)⟩) (by intro u hu;simp at hu;rcases hu with rfl | rfl | rfl <;> rfl) Q7 R5 Q1 ?_
  intro v4 w4 hown4 hgrow4 hat4;obtain⟨va,vc,xi,_⟩:=C2 hown4;subst xi;have xc:Below ((V.alloc (.cells (madeCells #[zC 0,J 0] (l*2)) 92)).alloc (.cells #[J 0,J 0,.slice (zA V.heap.size) l l,zD] 86)).drew.heap.size ((V.alloc (.cells (madeCells #[zC 0,J 0] (l*2)) 92)).alloc (.cells #[J 0,J 0,.slice (zA V.heap.size) l l,zD] 86)).drew w4:=⟨hgrow4.os,hgrow4.tape,hgrow4.output,hgrow4.size,fun k hk=>hgrow4.block k hk (by simp [Value.ownBlock])⟩
  have xa:Hid (L0d V w4):=hid (xe.out.trans (xc.mono xe.out.size));have HS:=hid (xb.out va vc w4 xc hown4 (fun b hb=>by
   rcases hat4 b hb with e | e
   ·cases e
   ·rw [e];simp))
  clear hown4 hgrow4 hat4 xc
  dsimp only
  refine TG hK (HC.out _ xa.out) fun hHeld=>?_
  clear hK K;refine TW 14 a9z ?_;refine TW 15 a9A ?_;clear hHeld;have c4:=(HM.out _ xa.out).1.2.2.2.2.1;have z4:=(HM.out _ xa.out).2 4;obtain⟨s1,s2⟩:=HC.out _ xa.out;have ym:mb < w4.heap.size:=L0a xd xa.out.size;refine TO 16 a9B fun K hK=>?_
  go_simp
  have hS:(w4.setCell ⟨mb,4,none⟩ (.slice va 1 vc)).cell? ⟨w.heap.size,0,none⟩=some (.slice (some ⟨g.b,g.o,none⟩) g.n g.c)/\(w4.setCell ⟨mb,4,none⟩ (.slice va 1 vc)).cell? ⟨g.b,g.o+1,none⟩=some (J (l:Int)):=⟨(L0b (a:=⟨w.heap.size,0,none⟩) (Below.heap_setCell _ _ _ _ (by show w.heap.size≠mb;omega))).trans s1,(L0b (a:=⟨g.b,g.o+1,none⟩) (Below.heap_setCell _ _ _ _ (by show g.b≠mb;omega))).trans s2⟩
  refine hK.out _ _ hS (fun hHeld=>?_);clear hK K hHeld hS;refine wpAnyH_done Q8 ?_ _;generalize (w4.setCell ⟨mb,4,none⟩ (.slice va 1 vc))=Y at *
  clear c4 s1 s2 z4 HC HM xb;go_wp2_with fail;go_ret2;exact HS.out
 refine AllReadyH.cons (o:=a9Q) rfl (fun K hK=>?_) ?_
 ·go_simp
  refine TG hK (HC.out _ xs.out) fun hHeld=>?_
  clear hK K;refine TW 11 a9R ?_;clear hHeld;refine wpAnyH_ready (rs:=[4,12]) Q8 R6 ?_;refine AllReadyH.cons (o:=a9w) rfl (fun K hK=>?_) ?_
  ·have c4:=(HM.out _ xs.out).1.2.2.2.2.1
   go_simp
   refine TG hK (HC.out _ xs.out) fun hHeld=>?_
   clear hK K;clear hHeld c4;refine TO 12 a9x fun K hK=>?_
   go_simp
   refine TG hK (HC.out _ xe.out) fun hHeld=>?_
   clear hK K;clear hHeld;refine TO 13 a9y fun K hK=>?_
   refine J0 rfl (.tmp 32) (.tmp 40) 66 rfl V.heap.size 86 xz _ 4 64 underlying66 HI.out HZ.out xx.out yd.out rfl R4 zD 0 [] Q3 (World.ownsRow_nil _ _ _ _) (some ⟨V.heap.size+1,0,none⟩) 1 1 [J 0,J 0,.slice (zA V.heap.size) l l,zD] Q3 rfl (fun _=>⟨_,rfl,World.news_of_block (cs:=#[J 0,J 0,.slice (zA V.heap.size) l l,zD]) (t:=86) (fr:=(0,0)) (B0 R6)⟩) (by intro u hu;simp at hu;rcases hu with rfl | rfl | rfl <;> rfl) Q7 R5 Q1 ?_
   intro v4 w4 hown4 hgrow4 hat4;obtain⟨va,vc,xi,_⟩:=C2 hown4;subst xi;have xc:Below ((V.alloc (.cells (madeCells #[zC 0,J 0] (l*2)) 92)).alloc (.cells #[J 0,J 0,.slice (zA V.heap.size) l l,zD] 86)).drew.heap.size ((V.alloc (.cells (madeCells #[zC 0,J 0] (l*2)) 92)).alloc (.cells #[J 0,J 0,.slice (zA V.heap.size) l l,zD] 86)).drew w4:=⟨hgrow4.os,hgrow4.tape,hgrow4.output,hgrow4.size,fun k hk=>hgrow4.block k hk (by simp [Value.ownBlock])⟩
   have xa:Hid (L0d V w4):=hid (xe.out.trans (xc.mono xe.out.size));have HS:=hid (xb.out va vc w4 xc hown4 (fun b hb=>by
    rcases hat4 b hb with e | e
    ·cases e
    ·rw [e];simp))
   clear hown4 hgrow4 hat4 xc
   dsimp only
   refine TG hK (HC.out _ xa.out) fun hHeld=>?_
   clear hK K;refine TW 14 a9z ?_;refine TW 15 a9A ?_;clear hHeld;have c4:=(HM.out _ xa.out).1.2.2.2.2.1;have z4:=(HM.out _ xa.out).2 4;obtain⟨s1,s2⟩:=HC.out _ xa.out;have ym:mb < w4.heap.size:=L0a xd xa.out.size;refine TO 16 a9B fun K hK=>?_
   go_simp
   have hS:(w4.setCell ⟨mb,4,none⟩ (.slice va 1 vc)).cell? ⟨w.heap.size,0,none⟩=some (.slice (some ⟨g.b,g.o,none⟩) g.n g.c)/\(w4.setCell ⟨mb,4,none⟩ (.slice va 1 vc)).cell? ⟨g.b,g.o+1,none⟩=some (J (l:Int)):=⟨(L0b (a:=⟨w.heap.size,0,none⟩) (Below.heap_setCell _ _ _ _ (by show w.heap.size≠mb;omega))).trans s1,(L0b (a:=⟨g.b,g.o+1,none⟩) (Below.heap_setCell _ _ _ _ (by show g.b≠mb;omega))).trans s2⟩
   refine hK.out _ _ hS (fun hHeld=>?_);clear hK K hHeld hS;refine wpAnyH_done Q8 ?_ _;generalize (w4.setCell ⟨mb,4,none⟩ (.slice va 1 vc))=Y at *
   clear c4 s1 s2 z4 HC HM xb;go_wp2_with fail;go_ret2;exact HS.out
  refine AllReadyH.cons (o:=a9x) rfl (fun K hK=>?_) ?_
  ·go_simp
   refine TG hK (HC.out _ xe.out) fun hHeld=>?_
   clear hK K;clear hHeld;refine TO 4 a9w fun K hK=>?_
   have c4:=(HM.out _ xe.out).1.2.2.2.2.1;go_simp
   refine TG hK (HC.out _ xe.out) fun hHeld=>?_
   clear hK K;clear hHeld c4;refine TO 13 a9y fun K hK=>?_
   refine J0 rfl (.tmp 32) (.tmp 40) 66 rfl V.heap.size 86 xz _ 4 64 underlying66 HI.out HZ.out xx.out yd.out rfl R4 zD 0 [] Q3 (World.ownsRow_nil _ _ _ _) (some ⟨V.heap.size+1,0,none⟩) 1 1 [J 0,J 0,.slice (zA V.heap.size) l l,zD] Q3 rfl (fun _=>⟨_,rfl,World.news_of_block (cs:=#[J 0,J 0,.slice (zA V.heap.size) l l,zD]) (t:=86) (fr:=(0,0)) (B0 R6)⟩) (by intro u hu;simp at hu;rcases hu with rfl | rfl | rfl <;> rfl) Q7 R5 Q1 ?_
   intro v4 w4 hown4 hgrow4 hat4;obtain⟨va,vc,xi,_⟩:=C2 hown4;subst xi;have xc:Below ((V.alloc (.cells (madeCells #[zC 0,J 0] (l*2)) 92)).alloc (.cells #[J 0,J 0,.slice (zA V.heap.size) l l,zD] 86)).drew.heap.size ((V.alloc (.cells (madeCells #[zC 0,J 0] (l*2)) 92)).alloc (.cells #[J 0,J 0,.slice (zA V.heap.size) l l,zD] 86)).drew w4:=⟨hgrow4.os,hgrow4.tape,hgrow4.output,hgrow4.size,fun k hk=>hgrow4.block k hk (by simp [Value.ownBlock])⟩
   have xa:Hid (L0d V w4):=hid (xe.out.trans (xc.mono xe.out.size));have HS:=hid (xb.out va vc w4 xc hown4 (fun b hb=>by
    rcases hat4 b hb with e | e
    ·cases e
    ·rw [e];simp))
   clear hown4 hgrow4 hat4 xc
   dsimp only
   refine TG hK (HC.out _ xa.out) fun hHeld=>?_
   clear hK K;refine TW 14 a9z ?_;refine TW 15 a9A ?_;clear hHeld;have c4:=(HM.out _ xa.out).1.2.2.2.2.1;have z4:=(HM.out _ xa.out).2 4;obtain⟨s1,s2⟩:=HC.out _ xa.out;have ym:mb < w4.heap.size:=L0a xd xa.out.size;refine TO 16 a9B fun K hK=>?_
   go_simp
   have hS:(w4.setCell ⟨mb,4,none⟩ (.slice va 1 vc)).cell? ⟨w.heap.size,0,none⟩=some (.slice (some ⟨g.b,g.o,none⟩) g.n g.c)/\(w4.setCell ⟨mb,4,none⟩ (.slice va 1 vc)).cell? ⟨g.b,g.o+1,none⟩=some (J (l:Int)):=⟨(L0b (a:=⟨w.heap.size,0,none⟩) (Below.heap_setCell _ _ _ _ (by show w.heap.size≠mb;omega))).trans s1,(L0b (a:=⟨g.b,g.o+1,none⟩) (Below.heap_setCell _ _ _ _ (by show g.b≠mb;omega))).trans s2⟩
   refine hK.out _ _ hS (fun hHeld=>?_);clear hK K hHeld hS;refine wpAnyH_done Q8 ?_ _;generalize (w4.setCell ⟨mb,4,none⟩ (.slice va 1 vc))=Y at *
   clear c4 s1 s2 z4 HC HM xb;go_wp2_with fail;go_ret2;exact HS.out
  exact AllReadyH.nil
 exact AllReadyH.nil
end Go.Proofs.YtbkmgoffiigdbaaGreatDoor
