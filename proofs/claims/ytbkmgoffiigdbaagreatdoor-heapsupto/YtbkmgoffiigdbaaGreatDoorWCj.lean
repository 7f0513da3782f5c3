import Derived.Test.YtbkmgoffiigdbaaGreatDoorWFd
namespace Go.Proofs.YtbkmgoffiigdbaaGreatDoor
open Go.RowKit Go.Proofs.Tryz
set_option maxHeartbeats 4000000
set_option maxRecDepth 100000
theorem nN (B B2:Nat) (g:PgR) (Bk C:Nat->Nat) (cb cc:Nat) (w:World) (hB:B<=w.heap.size) (hg:I5 B w g) (hr:gU g) (hc:X6 B w g Bk C cb cc) (hB2:B2<=w.heap.size) (hc2:cb < B2/\∀j,j < g.n->Bk j < B2) :
  Calls prog 57 #[.agg #[.slice (some ⟨cb,0,none⟩) g.n cc],.agg #[.slice g.a g.n g.c]] w fun e w'=>e=.returned (.bool true)/\But (fun k=>B<=k/\k < B2) w w':=by
 obtain⟨F0,xd,yk,yd,yc,yo,yb⟩:=zC hc;have yl:=(show Hid _ from yd);clear yd;obtain⟨xk,yn,_,xs,ys,xq⟩:=I6 hc.1;unfold maxLen at xs;have hn:=hg.1;have yf:(g.n:Int)+1<=(cc:Int):=by omega
 have b0:=xd.cell (i:=g.n*3) R4;have b2:=xd.cell (i:=g.n*3+2) R4;rw[yc] at b0;rw[yb] at b2;clear yc yo yb;have v0:((w.alloc (Obj.cells #[.slice (some ⟨cb,0,none⟩) g.n cc] 41)).alloc (Obj.cells #[.slice g.a g.n g.c] 41)).cell? ⟨w.heap.size,0,none⟩=some (.slice (some ⟨cb,0,none⟩) g.n cc):=by go_simp
 have v1:((w.alloc (Obj.cells #[.slice (some ⟨cb,0,none⟩) g.n cc] 41)).alloc (Obj.cells #[.slice g.a g.n g.c] 41)).cell? ⟨w.heap.size+1,0,none⟩=some (.slice g.a g.n g.c):=by go_simp
 have xl:But (fun k=>B<=k/\k < B2) w ((w.alloc (Obj.cells #[.slice (some ⟨cb,0,none⟩) g.n cc] 41)).alloc (Obj.cells #[.slice g.a g.n g.c] 41)):=((But.refl _ _).alloc _).alloc _;have xm:((w.alloc (Obj.cells #[.slice (some ⟨cb,0,none⟩) g.n cc] 41)).alloc (Obj.cells #[.slice g.a g.n g.c] 41)).rowIs cb 163 (cc*3) F0:=(xd.alloc _).alloc _;have yu:((w.alloc (Obj.cells #[.slice (some ⟨cb,0,none⟩) g.n cc] 41)).alloc (Obj.cells #[.slice g.a g.n g.c] 41)).heap.size=w.heap.size+2:=by simp
 have yi:∀W:World,(binOp .eql 161 (.slice none 0 0) (.slice none 0 0)).run prog W=.ok (.bool true) W:=fun W=>Go.Lib.run_eql_slice_nil W 161 165 none 0 0 0 0 underlying161
 have xj:Hid (∀k,k < w.heap.size->((w.alloc (Obj.cells #[.slice (some ⟨cb,0,none⟩) g.n cc] 41)).alloc (Obj.cells #[.slice g.a g.n g.c] 41)).heap[k]?=w.heap[k]?):=fun k hk=>by
  rw[Below.heap_alloc _ _ _ Q8,Below.heap_alloc _ _ _ hk]
 go_enter func57,ntmps57;go_wp2
 clear v0 yi b0 b2;generalize ((w.alloc (Obj.cells #[.slice (some ⟨cb,0,none⟩) g.n cc] 41)).alloc (Obj.cells #[.slice g.a g.n g.c] 41))=W1 at *
 have xr:Hid (∀i j,i < g.n->j < g.n->Bk i=Bk j->i=j):=hc.2.2;have yp:Hid (∀j,j < g.n->U5 B w (g.f j) (Bk j) (C j)):=hc.2.1;have xf:∀j,j < g.n->Bk j≠cb/\B<=Bk j/\Bk j < w.heap.size/\Bk j < B2:=fun j hj=>by
  obtain⟨h1,h2,_,_,yw,xn⟩:=I6 (hc.2.1 j hj);refine⟨fun e=>?_,h1,h2,hc2.2 j hj⟩;rw[e,xq] at xn;have:=L5b xn;simp at this
 have xy:=(show Hid _ from xf);clear xf;go_loopw [6,7] (fun v vi wr=>∃(i:Nat) (F:Nat->Value),i<=g.n/\vi=.int .i64 i/\v=.bool true/\But (fun k=>B<=k/\k < B2) W1 wr/\wr.rowIs cb 163 (cc*3) F /\
   (∀t,i<=t->t < g.n->F (t*3)=.int .i64 (g.f t).p/\F (t*3+1)=.int .i64 (g.f t).l/\F (t*3+2)=.slice (some ⟨Bk t,0,none⟩) (g.f t).n (C t)) /\
   ∀t,i<=t->t < g.n->U5 B wr (g.f t) (Bk t) (C t)) (fun _ vi _=>g.n - (intOf vi).toNat)
 case atStart=>exact ⟨0,F0,L4c _,rfl,rfl,But.refl _ _,xm,fun t _ ht=>yl.out t ht,fun t _ ht=>J3 (yp.out t ht) (xj.out _ (xy.out t ht).2.2.1)⟩
 case round =>
  obtain⟨i,F,hi,rfl,rfl,xe,xc,hF,yh⟩:=hrel;have HF:=(show Hid _ from hF);clear hF;have xp:=(show Hid _ from yh);clear yh;have yy:=xe.size;have xi:But (fun k=>B<=k/\k < B2) w wr:=xl.trans xe;have xg:Below B w wr:=xi.below hB (fun k hk=>by omega);have k1:wr.cell? ⟨w.heap.size+1,0,none⟩=some (.slice g.a g.n g.c):=by rw [xe.cell (by show w.heap.size+1 < _;omega) (by show ¬(B<=w.heap.size+1/\w.heap.size+1 < B2);omega)];exact v1
  have yv:w.heap.size+1 < wr.heap.size:=by omega
  by_cases hlt:i < g.n
  ·obtain ⟨ha,hb,xh⟩:=hg.2.1 R4
   obtain⟨c0,c1,c2⟩:=xh i hlt;rw[<- xg.cell (p:=⟨g.b,_,none⟩) hb] at c0 c1 c2;have zb:g.b < wr.heap.size:=by omega
   obtain⟨e0,e1,e2⟩:=HF.out i (L1c _) hlt;have d0:=xc.cell (i:=i*3) R4;have d1:=xc.cell (i:=i*3+1) R4;have d2:=xc.cell (i:=i*3+2) R4;have z0:=xc.frozen (i*3);have z1:=xc.frozen (i*3+1);have z2:=xc.frozen (i*3+2);rw[e0] at d0;rw[e1] at d1;rw[e2] at d2;clear e0 e1 e2 xh;have xu:cb < wr.heap.size:=xc.lt;have yq:(i:Int) < (g.n:Int)+1:=by omega
   rw[ha] at k1;have HA:=(show Hid _ from ha);clear ha;have xw:=(hr.2 i hlt).1;obtain⟨yj,ye,_,yt⟩:=xy.out i hlt;have xz:Hid (∀W,(W.heap.size=wr.heap.size)->(∀k:Nat,W.heap[k]?=wr.heap[k]?)->Calls prog 94 #[.slice (some ⟨Bk i,0,none⟩) (g.f i).n (C i),.slice (g.f i).a (g.f i).n (g.f i).c] W fun e w'=>e=.returned (.bool true)/\But (·=Bk i) W w'):=by
    intro W hWs hW;have yr:L4 B W (g.f i):=((hg.2.2 i hlt).below xg).below ⟨rfl,rfl,rfl,Nat.le_of_eq rfl,fun k _=>rfl⟩ |> fun h=>⟨h.1,fun hn=>by
     obtain⟨p1,p2,p3⟩:=h.2 hn;refine⟨p1,p2,fun j hj=>?_⟩;rw[L0b (w:=wr) (w':=W) (hW _),L0b (w:=wr) (w':=W) (hW _)];exact p3 j hj⟩
    exact jE B (g.f i) (Bk i) (C i) W ye yr (J3 (xp.out i (L1c _) hlt) (hW _)) xw
   go_wp2_with fail;go_quiet (fail)
   go_wp2_with fail;go_region_with ((go_at_call 94;refine (xz.out _ ?_ ?_).mono ?_;exact rfl;exact (fun _=>rfl);rintro e w2 ⟨rfl,xa⟩))
   all_goals
    have xv:¬cb=Bk i:=fun e=>yj e.symm
    have ym:wr.heap.size<=w2.heap.size:=xa.size;have xb:w2.rowIs cb 163 (cc*3) F:=xc.of_block (xa.block cb xu xv);have yg:cb < w2.heap.size:=by omega
    have y0:=xb.cell (i:=i*3) R4;have y1:=xb.cell (i:=i*3+1) R4;have y2:=xb.cell (i:=i*3+2) R4;have yz:=xb.frozen (i*3);have yx:=xb.frozen (i*3+1);have za:=xb.frozen (i*3+2);have xt:But (fun k=>B<=k/\k < B2) W1 w2:=xe.trans ⟨xa.os,xa.tape,xa.output,xa.size,fun k hk hs=>xa.block k hk (fun e=>hs ⟨by rw [e];exact ye,by rw [e];exact yt⟩)⟩;have xo:∀t,i+1<=t->t < g.n->U5 B w2 (g.f t) (Bk t) (C t):=fun t h1 h2=>by
     have ya:=xp.out t R4 h2;refine J3 ya (xa.block (Bk t) (I6 ya).2.1 (fun e=>?_));have:=xr.out t i h2 hlt e;omega
    have xx:=(show Hid _ from xo);clear xo;clear xa d0 d1 d2 c0 c1 c2 z0 z1 z2 k1 xz;go_wp2_with fail;go_roundw
    case rel =>
     refine⟨i+1,_,by omega,by go_num,rfl,((xt.setCell (p:=⟨cb,i*3,none⟩) (L4a ⟨xk,hc2.1⟩) _).setCell (p:=⟨cb,i*3+1,none⟩) (L4a ⟨xk,hc2.1⟩) _).setCell (p:=⟨cb,i*3+2,none⟩) (L4a ⟨xk,hc2.1⟩) _,
      ((xb.set (i*3) _).set (i*3+1) _).set (i*3+2) _,fun t h1 h2=>?_,fun t h1 h2=>J3 (xx.out t h1 h2) ?_⟩
     ·simp only [if_neg (show ¬t*3=i*3 by omega),if_neg (show ¬t*3=i*3+1 by omega),if_neg (show ¬t*3=i*3+2 by omega),if_neg (show ¬t*3+1=i*3 by omega),if_neg (show ¬t*3+1=i*3+1 by omega),if_neg (show ¬t*3+1=i*3+2 by omega),if_neg (show ¬t*3+2=i*3 by omega),if_neg (show ¬t*3+2=i*3+1 by omega),if_neg (show ¬t*3+2=i*3+2 by omega)]
      exact HF.out t R4 h2
     ·have:=(xy.out t h2).1
      rw[Below.heap_setCell _ _ _ _ this,Below.heap_setCell _ _ _ _ this,Below.heap_setCell _ _ _ _ this]
    case measure=>simp [intOf];omega
  ·go_wp2_with fail
   go_ret;exact⟨rfl,xi⟩
end Go.Proofs.YtbkmgoffiigdbaaGreatDoor
