import Derived.Test.YtbkmgoffiigdbaaGreatDoorWAd
import Derived.RegionTactic
import Derived.BigRegion
import Derived.WalkSmall
namespace Go.Proofs.YtbkmgoffiigdbaaGreatDoor
open Go.RowKit Go.Sort Go.Proofs.Tryz
set_option maxHeartbeats 4000000
set_option maxRecDepth 100000
theorem oJ (B:Nat) (g:PgR) (f:FnR) (wb hb base:Nat) (H:Nat->Int) (T:List Nat) (tv:Value) (pc:Nat) (w:World) (hw:M2 w g f wb hb base H T tv) (hB0:0 < B) (hB1:B<=wb) (hB2:B<=hb)
  (hg:I5 B w g) (hf:L4 B w f) (hgood:uJ g f) (ht:Tab w) (hT:T.length<=59) (hpc:pc < f.n) (hinv:Inv (B6 g f) H T) (hH:0<=H pc) :
  Calls prog 217 #[.pointer (some ⟨wb,0,none⟩),.int .i64 (pc:Int)] w fun e w'=>jB B g f wb hb base H T pc w e w':=by
 have zc:f.n<=60:=hgood.2.1;have zs:wb < w.heap.size:=L0a hw.ltw hw.size;have zm:hb < w.heap.size:=L0a hw.lth hw.size;obtain⟨ha,zn,xn⟩:=hf.2 R4;obtain⟨co,ca⟩:=xn pc hpc;clear xn;have xz:=hgood.2.2.2 pc hpc;have xj:=(show Hid _ from xz);clear xz;obtain⟨yu,yn⟩:=iI xj.out;obtain⟨k,hk⟩:=L5c yu;rw[hk] at co yu yn
 have xx:k < 28:=by omega
 obtain⟨q,hq⟩:∃q,q=(B6 g f).pop pc:=⟨_,rfl⟩
 obtain⟨ze,zg⟩:=hgood.pop_bd hpc;rw[<- hq] at ze zg;obtain⟨r,hr⟩:∃r,r=(B6 g f).push pc:=⟨_,rfl⟩
 obtain⟨za,zk⟩:=aD (f.op pc);rw[show M9 (f.op pc)=r from hr.symm] at za zk;have HP:Hid (∀W,Below (w.alloc (Obj.cells #[.int .i64 (k:Int),.int .i64 (f.ar pc)] 165)).heap.size (w.alloc (Obj.cells #[.int .i64 (k:Int),.int .i64 (f.ar pc)] 165)) W->Calls prog 180 #[.agg #[.slice g.a g.n g.c],.agg #[.int .i64 (k:Int),.int .i64 (f.ar pc)]] W fun e w'=>e=.returned (.int .i64 q)/\L0d W w'):=by
  intro W hW;have yp:L0d w W:=C5 hW ((L3b _ _).alloc (L1c _) _) R5;have zr:=hw.size;have zo:=hw.ltw;have e:(B6 g f).pop pc=O1 k (g.f (f.ar pc).toNat).p:=by show O1 (f.op pc) _=_;rw [hk]
  rw[hq,e];refine mF B g k (f.ar pc) W (by have:=yp.size;omega) (hg.below (yp.mono R4)) (ht.below hB0 (yp.mono R4)) xx (fun ho=>?_);refine N6 (l:=f.l) (nc:=f.n) (op:=f.op pc) xj.out ?_;rw[hk];exact ho
 obtain⟨_,t1,t2,_⟩:=ht.2 k xx;have yt:M9 (k:Int)=r:=by rw [hr];show _=M9 (f.op pc);rw [hk]
 rw[yt] at t1;clear yt;have zh:=ht.1;have ys:(B6 g f).next pc=D5 pc k (f.ar pc):=by show D5 pc (f.op pc) _=_;rw [hk]
 have yg:=(show Hid _ from ys);clear ys;have HQ:=(show Hid _ from hq);clear hq;have HR:=(show Hid _ from hr);clear hr;have HK:=(show Hid _ from hk);clear hk;obtain⟨zt,zi,yv⟩:=hinv.1 pc hpc;have xi:=yv hH;have xa:=(show Hid _ from xi);clear xi yv;have c0:=hw.c0;have c1:=hw.c1;have c2:=hw.c2;rw[ha] at c1;have kh:=hw.row.cell hpc;have HA:=(show Hid _ from ha);clear ha;have zl:f.b < w.heap.size:=by omega
 go_enter func217,ntmps217;go_wp2
 have k0:=cell_regrown (w:=(w.alloc (Obj.cells #[.int .i64 (k:Int),.int .i64 (f.ar pc)] 165))) (a:=⟨wb,0,none⟩) (v:=.slice g.a g.n g.c) Q9;have k1:=cell_regrown (w:=(w.alloc (Obj.cells #[.int .i64 (k:Int),.int .i64 (f.ar pc)] 165))) (a:=⟨wb,2,none⟩) (v:=.slice (some ⟨hb,0,none⟩) f.n f.n) Q9;have k2:=cell_regrown (w:=(w.alloc (Obj.cells #[.int .i64 (k:Int),.int .i64 (f.ar pc)] 165))) (a:=⟨hb,pc,none⟩) (v:=.int .i64 (H pc)) Q9
 have k3:=cell_regrown (w:=(w.alloc (Obj.cells #[.int .i64 (k:Int),.int .i64 (f.ar pc)] 165))) (a:=⟨w.heap.size,0,none⟩) (v:=.int .i64 (k:Int)) Q9;have k4:=cell_regrown (w:=(w.alloc (Obj.cells #[.int .i64 (k:Int),.int .i64 (f.ar pc)] 165))) (a:=⟨w.heap.size,1,none⟩) (v:=.int .i64 (f.ar pc)) Q9;have yk:L0d w (w.alloc (Obj.cells #[.int .i64 (k:Int),.int .i64 (f.ar pc)] 165)):=(L3b _ _).alloc (L1c _) _
 have yy:(w.alloc (Obj.cells #[.int .i64 (k:Int),.int .i64 (f.ar pc)] 165)).heap.size=w.heap.size+1:=by simp
 generalize (w.alloc (Obj.cells #[.int .i64 (k:Int),.int .i64 (f.ar pc)] 165))=W at *
 refine wp_region_quiet_below Q7 Q7 ?_
 repeat (first
  | go_big_quiet_step ((go_at_call 180;exact Calls.regrown_of (HP.out _ (below_regrown _ _ _))))
  | quiet_step ((go_at_call 180;exact Calls.regrown_of (HP.out _ (below_regrown _ _ _)))))
 refine wpQuiet_nil ?_;intro _ hw';obtain⟨⟨dq,xo⟩,hw''⟩:=hw';subst hw'';have yl:L0d w (grow (redrawn W dq) xo):=yk.trans ((below_regrown W dq xo).mono yk.size);have e3:=k3 dq xo;have e4:=k4 dq xo;have zq:w.heap.size+1<=(grow (redrawn W dq) xo).heap.size:=by rw [<- yy];exact (below_regrown W dq xo).size
 clear k0 k1 k2 k3 k4 HP yk yy;generalize grow (redrawn W dq) xo=W2 at *
 have xp:M2 W2 g f wb hb base H T tv:=hw.but yl;have xt:Below B w W2:=yl.mono R4;rw[<- yl.cell (p:=⟨0,_,none⟩) zh] at t1 t2;have zp:0 < W2.heap.size:=by omega
 clear c0 c1 c2 kh co ca;have xh:Hid ((B6 g f).behind pc (H pc)=H pc - q+r):=by show _=_;unfold G1.behind;rw [<- HQ.out,<- HR.out]
 by_cases hb1:H pc - q < 0
 ·go_wp2_with fail
  go_ret;exact S8 rfl xt (G1.not_fits_pop xa.out (L4a (by rw [<- HQ.out];omega)))
 by_cases hb10:10 < H pc - q+r
 ·go_wp2_with fail
  go_ret;exact S8 rfl xt (G1.not_fits_pop xa.out (L4b (by rw [xh.out];exact hb10)))
 have xw:0<=H pc - q+r:=by omega
 have xg:H pc - q+r<=10:=by omega
 have yf:(B6 g f).pop pc<=H pc:=by rw [<- HQ.out];omega
 have xk:=(show Hid _ from yf);clear yf;have yb:∀b,b=w.heap.size->¬rP wb hb tv b:=by
  rintro b rfl (he | he | he)
  ·omega
  ·omega
  ·have:=(hw.own.lt _ he).2;omega
 have yh:=(show Hid _ from yb);clear yb;by_cases h12:k=12
 ·have ho:f.op pc=12:=by rw [HK.out,h12];rfl
  obtain⟨xy,yo⟩:=U7 xj.out (L4a ho);obtain⟨y,hy⟩:=L5c xy;have xd:(B6 g f).next pc=[y]:=by rw [yg.out,h12,hy];simp [D5]
  have xc:=(show Hid _ from xd);rw[show dE k=1 by simp [dE,h12]] at t2;rw[hy] at e4;clear xd h12 ho xy yo hy;go_wp2_with fail;refine (bY g f wb hb base H T tv y (H pc - q+r) W2 xp R4).mono ?_;rintro e w3 ⟨H',T',xv,ok,rfl,xs,xf,xe⟩;have xl:Below B w w3:=xt.trans (xe.below R4 (W0 xp hB1 hB2));go_wp2_with fail;go_ret;rcases eN hinv xa.out (c:=y) (by rw [xc.out];simp) xh.out xw xg xf with ⟨rfl,xr⟩ | ⟨rfl,yc,xm,ya,xu⟩
  ·exact S8 rfl xl xr
  ·have he:H' pc=H pc:=xm.1 pc hH
   exact Z4 H' T' xv rfl xl xs yc xm ⟨by rw [he];exact xk.out,by rw [he,xh.out];exact xg,fun c hc=>by
    rw[xc.out] at hc;obtain rfl:c=y:=by simpa using hc
    exact⟨ya,by rw [he,xh.out];exact xu⟩⟩
 by_cases h13:k=13
 ·have ho:f.op pc=13:=by rw [HK.out,h13];rfl
  obtain⟨xy,yo⟩:=U7 xj.out (L4b ho);obtain⟨y,hy⟩:=L5c xy;have xd:(B6 g f).next pc=[y,pc+1]:=by rw [yg.out,h13,hy];simp [D5]
  have xc:=(show Hid _ from xd);rw[show dE k=2 by simp [dE,h13]] at t2;rw[hy] at e4;clear xd h13 h12 ho xy yo hy;go_wp2_with fail;have xb:=bY g f wb hb base H T tv (pc+1) (H pc - q+r) W2 xp R4;rw[show ((pc+1:Nat):Int)=(pc:Int)+1 from by omega] at xb;refine xb.mono ?_;clear xb;rintro e w3 ⟨H',T',xv,ok,rfl,xs,xf,xe⟩;have xl:Below B w w3:=xt.trans (xe.below R4 (W0 xp hB1 hB2))
  rcases eN hinv xa.out (c:=pc+1) (by rw [xc.out];simp) xh.out xw xg xf with ⟨rfl,xr⟩ | ⟨rfl,yc,xm,ya,xu⟩
  ·go_wp2_with fail
   go_ret;exact S8 rfl xl xr
  ·have e5:w3.cell? ⟨w.heap.size,1,none⟩=some (.int .i64 (y:Int)):=by rw [xe.cell (by show w.heap.size < W2.heap.size;omega) (yh.out _ rfl)];exact e4
   have zj:=xe.size;have zb:T'.length<=T.length+1:=by
    rcases xf with ⟨h,_⟩ | ⟨h,_⟩ | ⟨_,_,_,_,_,rfl⟩ | ⟨_,_,_,_,rfl⟩
    ·cases h
    ·cases h
    ·omega
    ·simp
   have yr:=(show Hid _ from xm);clear xm;have yx:=(show Hid _ from xu);clear xu xf;go_wp2_with fail;refine (bY g f wb hb base H' T' xv y (H pc - q+r) w3 xs R4).mono ?_;rintro e w4 ⟨yw,zd,yj,ok,rfl,zf,xf,yd⟩;go_wp2_with fail;go_ret;have ye:Below B w w4:=xl.trans (yd.below R4 (W0 xs hB1 hB2));have yz:H' pc=H pc:=yr.out.1 pc hH;rcases eN yc (a:=pc) (b:=H pc) xa.out (c:=y) (by rw [xc.out];simp) xh.out xw xg xf with ⟨rfl,xr⟩ | ⟨rfl,ym,xq,yq,yi⟩
   ·exact S8 rfl ye xr
   ·have he:yw pc=H pc:=by rw [xq.1 pc (by rw [yz];exact hH),yz]
    exact Z4 yw zd yj rfl ye zf ym (Ext.trans yr.out xq) ⟨by rw [he];exact xk.out,by rw [he,xh.out];exact xg,fun c hc=>by
     rw[xc.out] at hc;rcases List.mem_cons.1 hc with rfl | hc
     ·exact ⟨yq,by rw [he,xh.out];exact yi⟩
     ·obtain rfl:c=pc+1:=by simpa using hc
      exact⟨ya,by rw [he,xh.out,xq.1 _ (by rw [yx.out];exact xw)];exact yx.out⟩⟩
 by_cases hend:k=15\/k=27
 ·have xd:(B6 g f).next pc=[]:=by rw [yg.out];unfold D5;rw [if_pos R4]
  have xc:=(show Hid _ from xd);clear xd;rw[show dE k=3 by unfold dE;rw [if_neg h12,if_neg h13,if_pos hend]] at t2;clear h12 h13 hend;go_wp2_with fail;go_ret;exact Z4 H T tv rfl xt xp hinv (Ext.refl _ _ _) ⟨xk.out,by rw [xh.out];exact xg,fun c hc=>by rw [xc.out] at hc;cases hc⟩
 ·have xd:(B6 g f).next pc=[pc+1]:=by rw [yg.out];unfold D5;rw [if_neg R4,if_neg R4,if_neg R4]
  have xc:=(show Hid _ from xd);clear xd;rw[show dE k=0 by unfold dE;rw [if_neg h12,if_neg h13,if_neg hend]] at t2;clear h12 h13 hend;go_wp2_with fail;have xb:=bY g f wb hb base H T tv (pc+1) (H pc - q+r) W2 xp R4;rw[show ((pc+1:Nat):Int)=(pc:Int)+1 from by omega] at xb;refine xb.mono ?_;clear xb;rintro e w3 ⟨H',T',xv,ok,rfl,xs,xf,xe⟩;have xl:Below B w w3:=xt.trans (xe.below R4 (W0 xp hB1 hB2))
  go_wp2_with fail;go_ret;rcases eN hinv xa.out (c:=pc+1) (by rw [xc.out];simp) xh.out xw xg xf with ⟨rfl,xr⟩ | ⟨rfl,yc,xm,ya,xu⟩
  ·exact S8 rfl xl xr
  ·have he:H' pc=H pc:=xm.1 pc hH
   exact Z4 H' T' xv rfl xl xs yc xm ⟨by rw [he];exact xk.out,by rw [he,xh.out];exact xg,fun c hc=>by
    rw[xc.out] at hc;obtain rfl:c=pc+1:=by simpa using hc
    exact⟨ya,by rw [he,xh.out];exact xu⟩⟩
def kZ (hb:Nat) (g:PgR) (f:FnR) (H:Nat->Int) (w:World) (e:Ending) (w':World):Prop :=
 ∃fr ok H',e=.returned (.tuple #[.bool fr,.bool ok])/\nZ (B6 g f) H H' fr ok/\But (·=hb) w w'/\w'.rowIs hb 3 f.n (fun i=>.int .i64 (H' i))
theorem bG {hb:Nat} {g:PgR} {f:FnR} {H:Nat->Int} {w:World} {e:Ending} {w':World} (fr ok:Bool) (H':Nat->Int)
  (he:e=.returned (.tuple #[.bool fr,.bool ok])) (hs:nZ (B6 g f) H H' fr ok) (hw:But (·=hb) w w') (hr:w'.rowIs hb 3 f.n (fun i=>.int .i64 (H' i))):kZ hb g f H w e w':=⟨fr,ok,H',he,hs,hw,hr⟩
theorem yB (hb:Nat) (g:PgR) (f:FnR) (H:Nat->Int) (w:World) (hB:hb < w.heap.size) (hg:I5 hb w g) (hf:L4 hb w f) (hgood:uJ g f)
  (hrow:w.rowIs hb 3 f.n (fun i=>.int .i64 (H i))) (hH:∀a,a < f.n -> -1<=H a/\H a<=10/\(0<=H a->(B6 g f).Reach a (H a))) :
  Calls prog 135 #[.agg #[.slice g.a g.n g.c],.agg #[.int .i64 f.p,.int .i64 f.l,.slice f.a f.n f.c],.slice (some ⟨hb,0,none⟩) f.n f.n] w fun e w' =>
   kZ hb g f H w e w':=by
 have HH:=(show Hid _ from hH);clear hH;have zf:1<=f.n:=hgood.1;have yt:f.n<=60:=hgood.2.1;obtain⟨ha,yz,xr⟩:=hf.2 zf;have yb:=(show Hid _ from xr);clear xr;rw[ha];clear ha;go_enter func135,ntmps135;go_wp2
 generalize hqW1:((w.alloc (.cells #[.slice g.a g.n g.c] 41)).alloc (.cells #[.int .i64 f.p,.int .i64 f.l,.slice (some ⟨f.b,f.o,none⟩) f.n f.c] 163))=W1 at *
 have xe:But (·=hb) w W1:=by subst hqW1;exact ((But.refl _ _).alloc _).alloc _
 have xt:W1.rowIs hb 3 f.n (fun i=>.int .i64 (H i)):=by subst hqW1;exact (hrow.alloc _).alloc _
 have g0:W1.cell? ⟨w.heap.size,0,none⟩=some (.slice g.a g.n g.c):=by subst hqW1;go_simp
 have f0:W1.cell? ⟨w.heap.size+1,0,none⟩=some (.int .i64 f.p):=by subst hqW1;go_simp
 have f1:W1.cell? ⟨w.heap.size+1,1,none⟩=some (.int .i64 f.l):=by subst hqW1;go_simp
 have f2:W1.cell? ⟨w.heap.size+1,2,none⟩=some (.slice (some ⟨f.b,f.o,none⟩) f.n f.c):=by subst hqW1;go_simp
 have zd:W1.heap.size=w.heap.size+2:=by subst hqW1;simp
 clear hqW1;go_loopw [8,9] (fun v i wr=>∃(pc:Nat) (H':Nat->Int) (fr:Bool),pc<=f.n/\i=.int .i64 pc/\v=.bool fr/\But (·=hb) W1 wr/\wr.rowIs hb 3 f.n (fun i=>.int .i64 (H' i)) /\
   Sp (B6 g f) H H' (∀a,a < pc->0<=H a->(B6 g f).Shut H a) fr) (fun _ i _=>f.n - (intOf i).toNat)
 case atStart=>exact ⟨0,H,false,L4c _,rfl,rfl,But.refl _ _,xt,HH.out,fun _ _=>rfl,L4a ⟨rfl,fun _=>rfl,fun a ha=>by omega⟩⟩
 case round =>
  obtain⟨pc,H',fr,zk,rfl,rfl,xa,xf,xu⟩:=hrel;have yu:w.heap.size+2<=wr.heap.size:=by have:=xa.size;omega
  have yi:w.heap.size < wr.heap.size:=by omega
  have yn:w.heap.size+1 < wr.heap.size:=by omega
  rw[<- xa.cell (by show w.heap.size < _;omega) (by show ¬w.heap.size=hb;omega)] at g0;rw[<- xa.cell (by show w.heap.size+1 < _;omega) (by show ¬w.heap.size+1=hb;omega)] at f0 f1 f2;by_cases hlt:pc < f.n
  ·have ya:=xf.cell hlt
   obtain⟨zm,zj,ym⟩:=xu.1 pc hlt;have yp:=(show Hid _ from ym);clear ym;by_cases hneg:H' pc < 0
   ·clear g0 f0 f1
    go_wp2
    go_roundw
    case rel=>exact ⟨pc+1,H',fr,by omega,by go_num,rfl,xa,xf,xu.imp fun he hq a ha hz=>by
      by_cases e:a=pc
      ·subst e;rw [he] at hneg;omega
      ·exact hq a R4 hz⟩
    case measure=>simp [intOf];omega
   ·have xj:Below hb w wr:=(xe.trans xa).below R4 (fun k hk=>by omega)
    obtain⟨co,ca⟩:=yb.out pc hlt;rw[<- xj.cell (p:=⟨f.b,_,none⟩) yz] at co ca;have za:I5 hb wr g:=hg.below xj;have xw:=hgood.2.2.2 pc hlt;have xz:=(show Hid _ from xw);clear xw;have zh:f.b < wr.heap.size:=by omega
    have zn:hb < wr.heap.size:=by omega
    obtain⟨q,hq⟩:∃q,q=(B6 g f).pop pc:=⟨_,rfl⟩
    obtain⟨yv,yy⟩:=hgood.pop_bd hlt;rw[<- hq] at yv yy;obtain⟨r,hr⟩:∃r,r=(B6 g f).push pc:=⟨_,rfl⟩
    obtain⟨yq,zg⟩:=aD (f.op pc);rw[show M9 (f.op pc)=r from hr.symm] at yq zg;have HP:Hid (∀W,L0d wr W->Calls prog 169 #[.agg #[.slice g.a g.n g.c],.agg #[.int .i64 (f.op pc),.int .i64 (f.ar pc)]] W fun e w'=>e=.returned (.int .i64 q)/\L0d W w'):=by
     intro W hW;rw[hq];exact a3d hb g (f.op pc) (f.ar pc) W (by have:=hW.size;omega) (za.below (hW.mono R4)) (fun ho=>N6 xz.out ho)
    have HU:Hid (∀W,Calls prog 176 #[.int .i64 (f.op pc)] W fun e w'=>e=.returned (.int .i64 r)/\w'=W):=by
     intro W;rw[hr];exact xA _ W
    have HQ:=(show Hid _ from hq);clear hq;have HR:=(show Hid _ from hr);clear hr;go_wp2_with fail;refine (HP.out _ (by repeat (first | exact L3b _ _ | refine Below.setCell ?_ Q1 _ | refine L3a ?_ Q1 _))).mono ?_;rintro e w2 ⟨rfl,xm⟩;have k0:w2.cell? ⟨hb,pc,none⟩=some (.int .i64 (H' pc)):=by rw [xm.cell Q8];go_simp
    have k1:w2.cell? ⟨wr.heap.size,0,none⟩=some (.int .i64 (f.op pc)):=by rw [xm.cell R5];go_simp
    have k2:w2.cell? ⟨wr.heap.size,1,none⟩=some (.int .i64 (f.ar pc)):=by rw [xm.cell R5];go_simp
    have k3:w2.cell? ⟨w.heap.size+1,2,none⟩=some (.slice (some ⟨f.b,f.o,none⟩) f.n f.c):=by rw [xm.cell Q8];go_simp
    have xi:But (·=hb) wr w2:=((But.refl _ wr).alloc _).trans (But.of_below xm);have xh:w2.rowIs hb 3 f.n (fun i=>.int .i64 (H' i)):=(xf.alloc _).of_block (xm.block hb Q8);have zb:wr.heap.size+1<=w2.heap.size:=by have:=xm.size;simpa using this
    clear xm g0 f0 f1 f2 co ca ya HP;go_wp2_with fail;go_quiet ((go_at_call 176;exact Calls.quiet_of_same (HU.out _)))
    have zc:0<=H' pc:=by omega
    have xk:=yp.out zc;have xc:=(show Hid _ from xk);clear xk;by_cases hb1:H' pc < q
    ·go_wp2_with fail
     go_ret2;exact bG fr false H' rfl (L4a ⟨rfl,G1.not_fits_pop xc.out (L4a (by rw [<- HQ.out];exact hb1))⟩) ((xe.trans xa).trans (xi.drewN _)) xh
    by_cases xm:10 < H' pc - q+r
    ·go_wp2_with fail
     go_ret2;exact bG fr false H' rfl (L4a ⟨rfl,G1.not_fits_pop xc.out (L4b (by unfold G1.behind;rw [<- HQ.out,<- HR.out];exact xm))⟩) ((xe.trans xa).trans (xi.drewN _)) xh
    go_wp2_with fail;refine (a2U pc (f.op pc) (f.ar pc) _ R4 (fun ho=>(U7 xz.out ho).1)).mono ?_;rintro e w4 ⟨v4,rfl,xp,xv⟩;have xl:But (·=hb) wr w4:=(xi.drewN nq).trans (But.of_below xv);have xo:w4.rowIs hb 3 f.n (fun i=>.int .i64 (H' i)):=xh.of_block (xv.block hb (by show hb < w2.heap.size;omega));have k4:w4.cell? ⟨w.heap.size+1,2,none⟩=some (.slice (some ⟨f.b,f.o,none⟩) f.n f.c):=by rw [xv.cell (by show w.heap.size+1 < w2.heap.size;omega)];exact k3
    have ys:w2.heap.size<=w4.heap.size:=xv.size;clear xv k0 k1 k2 k3;have xx:Hid ((B6 g f).behind pc (H' pc)=H' pc - q+r):=by show _=_;unfold G1.behind;rw [<- HQ.out,<- HR.out]
    generalize hbv:H' pc - q+r=bv at *
    have yd:0<=bv:=by omega
    have xg:bv<=10:=by omega
    clear hbv;have yg:(B6 g f).next pc=D5 pc (f.op pc) (f.ar pc):=rfl;generalize D5 pc (f.op pc) (f.ar pc)=L at xp yg;have yc:=(show Hid _ from yg);clear yg;rcases xp with ⟨rfl,rfl⟩ | ⟨lb,rfl,ye,yh,yo⟩
    ·go_wp2_with fail
     go_loop [8,14] (fun v i=>v=.bool fr/\i=.int .i64 0) (fun _ _=>0)
     case atStart=>exact ⟨rfl,rfl⟩
     case round =>
      obtain⟨rfl,rfl⟩:=hrel;go_wp2
      go_roundw
      case rel=>exact ⟨pc+1,H',fr,by omega,by go_num,rfl,xa.trans xl,xo,xu.imp fun he hq a ha hz=>by
       by_cases e:a=pc
       ·subst e
        exact⟨by rw [<- he,<- HQ.out];omega,by rw [<- he,xx.out];exact xg,fun c hc=>by rw [yc.out] at hc;cases hc⟩
       ·exact hq a R4 hz⟩
      case measure=>simp [intOf];omega
    ·have zi:=(show Hid _ from yo);clear yo
     have zo:L.length<=2:=by rw [<- yc.out];show (D5 pc (f.op pc) (f.ar pc)).length<=2;unfold D5;repeat' split
                             all_goals simp
     go_wp2_with fail;go_loopw [8,14] (fun v vi wx=>∃(i:Nat) (H2:Nat->Int) (xs:Bool),i<=L.length/\vi=.int .i64 i/\v=.bool xs/\But (·=hb) w4 wx/\wx.rowIs hb 3 f.n (fun i=>.int .i64 (H2 i)) /\
       Sp (B6 g f) H H2 ((∀a,a < pc->0<=H a->(B6 g f).Shut H a)/\H' pc=H pc/\∀j,j < i->L.getD j 0 < f.n/\H (L.getD j 0)=bv) xs) (fun _ vi _=>L.length - (intOf vi).toNat)
     case atStart=>exact ⟨0,H',fr,L4c _,rfl,rfl,But.refl _ _,xo,xu.imp fun he hq=>⟨hq,he pc,fun j hj=>by omega⟩⟩
     case round =>
      obtain⟨i,H2,xs,hi,rfl,rfl,xd,xb,xn⟩:=hrel;have yr:=xd.size;have xy:¬lb=hb:=by have:w2.heap.size<=lb:=ye;omega
      have kx:wr.cell? ⟨w.heap.size+1,2,none⟩=some (.slice (some ⟨f.b,f.o,none⟩) f.n f.c):=by rw [xd.cell (by show w.heap.size+1 < w4.heap.size;omega) (by show ¬w.heap.size+1=hb;omega)];exact k4
      have xq:But (·=hb) w wr:=((xe.trans xa).trans xl).trans xd;by_cases hil:i < L.length
      ·obtain ⟨c,hc⟩:∃c,c=L.getD i 0:=⟨_,rfl⟩
       have yj:c∈(B6 g f).next pc:=by rw [yc.out,hc,List.getD_eq_getElem?_getD,L1b hil];exact List.getElem_mem hil
       have yf:=(show Hid _ from yj);clear yj;have kc:wr.cell? ⟨lb,i,none⟩=some (.int .i64 (c:Nat)):=by rw [xd.cell yh xy,zi.out i hil,hc]
       have HC:=(show Hid _ from hc);clear hc;have yx:lb < wr.heap.size:=by omega
       have yl:(B6 g f).Reach c bv:=by rw [<- xx.out];exact G1.reach_next xc.out yf.out
       have yw:=(show Hid _ from yl);clear yl;by_cases hcn:c < f.n
       ·have kh:=xb.cell hcn
        have kf:=xb.frozen c;obtain⟨zp,zl,yk⟩:=xn.1 c hcn;have ze:=(show Hid _ from yk);clear yk;by_cases hcneg:H2 c < 0
        ·go_wp2_with fail
         go_quiet (fail)
         go_wp2_with fail;go_roundw
         case rel=>exact ⟨i+1,fun j=>if j=c then bv else H2 j,true,by omega,by go_num,rfl,((xd.drewN _).setCell (p:=⟨hb,c,none⟩) (L4a rfl) (.int .i64 bv)),(xb.set c (.int .i64 bv)).congr (fun j _=>by by_cases e:j=c <;> simp [e]),xn.set hcn hcneg yd xg yw.out⟩
         case measure=>simp [intOf];omega
        by_cases hceq:(H2 c != bv)=true
        ·go_wp2_with fail
         go_quiet (fail)
         go_wp2_with fail;go_ret2;exact bG xs false H2 rfl (L4a ⟨rfl,G1.not_fits_two xc.out yf.out (ze.out R4) (by rw [xx.out];simpa using hceq)⟩) (xq.drewN _) xb
        ·go_wp2_with fail
         go_quiet (fail)
         go_wp2_with fail;go_roundw
         case rel=>exact ⟨i+1,H2,xs,by omega,by go_num,rfl,xd.drewN _,xb,xn.imp fun he ⟨q1,q2,q3⟩=>⟨q1,q2,fun j hj=>by
          by_cases e:j=i
          ·subst e;rw [<- HC.out];exact ⟨hcn,by rw [<- he];simpa using hceq⟩
          ·exact q3 j R4⟩⟩
         case measure=>simp [intOf];omega
       ·go_wp2_with fail
        go_quiet (fail)
        go_wp2_with fail;go_ret2;exact bG xs false H2 rfl (L4a ⟨rfl,G1.not_fits_past xc.out yf.out (by show f.n<=c;omega)⟩) (xq.drewN _) xb
      ·go_wp2_with fail
       go_roundw
       case rel=>exact ⟨pc+1,H2,xs,by omega,by go_num,rfl,(xa.trans xl).trans xd,xb,xn.imp fun he ⟨q1,q2,q3⟩ a ha hz=>by
        by_cases e:a=pc
        ·subst e
         refine⟨by rw [<- q2,<- HQ.out];omega,by rw [<- q2,xx.out];exact xg,fun c hc=>?_⟩;rw[yc.out] at hc;obtain⟨j,hj,rfl⟩:=List.getElem_of_mem hc;have:=q3 j R4;rw[List.getD_eq_getElem?_getD,L1b hj] at this;exact⟨this.1,by rw [<- q2,xx.out];exact this.2⟩
        ·exact q1 a R4 hz⟩
       case measure=>simp [intOf];omega
  ·clear g0 f0 f1
   go_wp2
   go_ret2;exact bG fr true H' rfl (L4b ⟨rfl,xu.imp fun _ hq a ha hz=>hq a (by have:a < f.n:=ha;omega) hz⟩) (xe.trans xa) xf
theorem dW:(prog.info? 3).map (fun i=>(i.zero,i.size,i.bytes))=some (some (.int .i64 0),1,8):=by kernel_rfl
def O8 (g:PgR) (f:FnR) (w:World) (e:Ending) (w':World):Prop :=
 ∃v ok,e=.returned (.tuple #[v,.bool ok])/\(ok=true↔(B6 g f).Fits)/\L0d w w'
theorem V6 {g:PgR} {f:FnR} {w:World} {e:Ending} {w':World} (v:Value) (ok:Bool) (he:e=.returned (.tuple #[v,.bool ok])) (hs:ok=true↔(B6 g f).Fits) (hw:L0d w w'):O8 g f w e w':=⟨v,ok,he,hs,hw⟩
theorem sU (B:Nat) (g:PgR) (f:FnR) (w:World) (hB:B<=w.heap.size) (hg:I5 B w g) (hf:L4 B w f) (hgood:uJ g f) :
  Calls prog 98 #[.agg #[.slice g.a g.n g.c],.agg #[.int .i64 f.p,.int .i64 f.l,.slice f.a f.n f.c]] w fun e w'=>O8 g f w e w':=by
 have ya:1<=f.n:=hgood.1;have yd:f.n<=60:=hgood.2.1;have yc:=Go.run_make_row' (P:=prog) 24 3 (.int .i64 0) 8 underlying24 dW rfl .i64 .i64 f.n R4 R4;go_enter func98,ntmps98;go_wp2
 generalize hqW1:(((w.alloc (Obj.cells #[.slice g.a g.n g.c] 41)).alloc (Obj.cells #[.int .i64 f.p,.int .i64 f.l,.slice f.a f.n f.c] 163)).alloc (Obj.cells (madeCells #[Value.int IntKind.i64 0] f.n) 3))=W1 at *
 have xd:L0d w W1:=by subst hqW1;repeat (first | exact L3b _ _ | refine L3a ?_ Q1 _)
 have xf:W1.rowIs (w.heap.size+1+1) 3 f.n (fun _=>.int .i64 0):=by
  subst hqW1;have:=World.rowIs_made ((w.alloc (Obj.cells #[.slice g.a g.n g.c] 41)).alloc (Obj.cells #[.int .i64 f.p,.int .i64 f.l,.slice f.a f.n f.c] 163)) (.int .i64 0) f.n 3;simpa using this
 have g0:W1.cell? ⟨w.heap.size,0,none⟩=some (.slice g.a g.n g.c):=by subst hqW1;go_simp
 have f0:W1.cell? ⟨w.heap.size+1,0,none⟩=some (.int .i64 f.p):=by subst hqW1;go_simp
 have f1:W1.cell? ⟨w.heap.size+1,1,none⟩=some (.int .i64 f.l):=by subst hqW1;go_simp
 have f2:W1.cell? ⟨w.heap.size+1,2,none⟩=some (.slice f.a f.n f.c):=by subst hqW1;go_simp
 have yn:W1.heap.size=w.heap.size+3:=by subst hqW1;simp
 clear hqW1;obtain⟨hb,xr⟩:∃hb,hb=w.heap.size+1+1:=⟨_,rfl⟩
 rw[<- xr] at xf ⊢;have xu:=(show Hid _ from xr);clear xr;have yl:hb<=w.heap.size+2:=by have:=xu.out;omega
 have xy:w.heap.size+2<=hb:=by have:=xu.out;omega
 clear yc;go_loopw [7] (fun v wr=>∃i:Nat,1<=i/\i<=f.n/\v=.int .i64 i/\But (·=hb) W1 wr/\wr.rowIs hb 3 f.n (fun j=>.int .i64 (if 1<=j/\j < i then -1 else 0))) (fun v _=>f.n - (intOf v).toNat)
 case atStart=>exact ⟨1,L1c _,ya,rfl,But.refl _ _,xf.congr (fun j _=>by rw [if_neg R4])⟩
 case round =>
  obtain⟨i,yr,yp,rfl,xk,xc⟩:=hrel;by_cases hlt:i < f.n
  ·have kh:=xc.cell hlt
   have kf:=xc.frozen i;go_wp2
   go_roundw
   case rel=>exact ⟨i+1,by omega,by omega,by go_num,xk.setCell (L4a rfl) _,(xc.set i (.int .i64 (-1))).congr (fun j _=>by
    by_cases e:j=i
    ·subst e;rw [if_pos rfl,if_pos R4]
    ·rw [if_neg e]
     by_cases h1:1<=j/\j < i
     ·rw [if_pos h1,if_pos R4]
     ·rw [if_neg h1,if_neg R4])⟩
   case measure=>simp [intOf];omega
  ·go_wp2
   have yb:Hid (∀j,(fun j:Nat=>if 1<=j/\j < i then (-1:Int) else 0) j=if 1<=j/\j < i then (-1:Int) else 0):=fun _=>rfl
   have xe:(B6 g f).n=f.n:=rfl;have yq:=(show Hid _ from xe);clear xe;have xb:(∀a,a < f.n -> -1<=(if 1<=a/\a < i then (-1:Int) else 0)/\(if 1<=a/\a < i then (-1:Int) else 0)<=10/\(0<=(if 1<=a/\a < i then (-1:Int) else 0)->(B6 g f).Reach a (if 1<=a/\a < i then (-1:Int) else 0))):=by
    intro a ha;by_cases h1:1<=a/\a < i
    ·rw [if_pos h1];exact ⟨by omega,by omega,fun h=>by omega⟩
    ·rw [if_neg h1];refine ⟨by omega,by omega,fun _=>?_⟩
     obtain rfl:a=0:=by omega
     exact (B6 g f).reach_first
   have xw:=(show Hid _ from xb);clear xb;generalize hH0:(fun j:Nat=>if 1<=j/\j < i then (-1:Int) else 0)=H0 at *
   have e0:∀j,H0 j=if 1<=j/\j < i then (-1:Int) else 0:=fun j=>by rw [<- hH0]
   have xj:wr.rowIs hb 3 f.n (fun j=>.int .i64 (H0 j)):=xc.congr fun j _=>by rw [e0]
   have xs:∀a,a < f.n -> -1<=H0 a/\H0 a<=10/\(0<=H0 a->(B6 g f).Reach a (H0 a)):=fun a ha=>by rw [e0];exact xw.out a ha
   have xx:H0 0=0:=by rw [e0,if_neg R4]
   have xp:=(show Hid _ from xs);have yh:=(show Hid _ from xx);clear xs xx e0 hH0 xw yb xc;go_loopg [8] (left f.n H0) (fun k _ wx=>∃H:Nat->Int,left f.n H<=k/\But (·=hb) W1 wx/\wx.rowIs hb 3 f.n (fun j=>.int .i64 (H j))/\H 0=0/\∀a,a < f.n -> -1<=H a/\H a<=10/\(0<=H a->(B6 g f).Reach a (H a)))
   case atStart=>exact ⟨H0,L1c _,xk,xj,yh.out,xp.out⟩
   case round =>
    obtain⟨H,hk,xa,xm,xt,xv⟩:=hrel;have xq:=(show Hid _ from xt);clear xt;have yg:=(show Hid _ from xv);clear xv;have xz:=xa.size;have ym:w.heap.size < wr.heap.size:=by omega
    have yo:w.heap.size+1 < wr.heap.size:=by omega
    have kg:wr.cell? ⟨w.heap.size,0,none⟩=some (.slice g.a g.n g.c):=by rw [xa.cell (by show w.heap.size < _;omega) (by show ¬w.heap.size=hb;omega)];exact g0
    have k0:wr.cell? ⟨w.heap.size+1,0,none⟩=some (.int .i64 f.p):=by rw [xa.cell (by show w.heap.size+1 < _;omega) (by show ¬w.heap.size+1=hb;omega)];exact f0
    have k1:wr.cell? ⟨w.heap.size+1,1,none⟩=some (.int .i64 f.l):=by rw [xa.cell (by show w.heap.size+1 < _;omega) (by show ¬w.heap.size+1=hb;omega)];exact f1
    have k2:wr.cell? ⟨w.heap.size+1,2,none⟩=some (.slice f.a f.n f.c):=by rw [xa.cell (by show w.heap.size+1 < _;omega) (by show ¬w.heap.size+1=hb;omega)];exact f2
    have xh:L0d w wr:=xd.trans (xa.below R4 (fun k hk=>by omega));have ye:I5 hb wr g:=((hg.mono hB).below xh).mono R4;have yf:L4 hb wr f:=((hf.mono hB).below xh).mono R4;clear g0 f0 f1 f2;go_wp2_with fail;refine (yB hb g f H wr R4 ye yf hgood xm yg.out).mono ?_;rintro e w2 ⟨fr,ok,H',rfl,xo,xg,xl⟩;have xi:L0d w w2:=xh.trans (xg.below R4 (fun k hk=>by omega))
    rcases xo with ⟨rfl,xn⟩ | ⟨rfl,yi⟩
    ·go_wp2_with fail
     go_ret2;exact V6 _ false rfl ⟨fun h=>(by cases h),fun h=>absurd h xn⟩ xi
    ·rcases yi with ⟨hs1',hs2',⟨rfl,hse,hsh⟩ | ⟨rfl,hsl⟩⟩
     ·go_wp2_with fail
      go_ret2;exact V6 _ true rfl ⟨fun _=>G1.fits_of_shut (H:=H) (by show 0 < f.n;omega) xq.out (fun a=>(aD _).1) hsh,fun _=>rfl⟩ xi
     ·have yk:=(show Hid _ from hs1');have yj:=(show Hid _ from hs2');clear hs1' hs2'
      go_wp2_with fail;go_roundg (left f.n H')
      case measure=>exact L0a hsl hk
      case rel=>exact ⟨H',L1c _,xa.trans xg,xl,by rw [yj.out 0 (by rw [xq.out];omega)];exact xq.out,yk.out⟩
theorem G1.Shut.ext {F:G1} {H H':Nat->Int} {a:Nat} (h:F.Shut H a) (hp:0<=F.push a) (ha:0<=H a) (hx:∀a,0<=H a->H' a=H a):F.Shut H' a:=by
 obtain⟨h1,h2,h3⟩:=h;have he:=hx a ha;refine⟨by rw [he];exact h1,by rw [he];exact h2,fun c hc=>?_⟩;obtain⟨h4,h5⟩:=h3 c hc;refine⟨h4,?_⟩;rw[he,hx c (by rw [h5];unfold G1.behind;omega),h5]
def nY (g:PgR) (f:FnR) (wb hb base:Nat) (w:World) (k:Nat) (ok:Bool):Prop :=
 (ok=false/\¬(B6 g f).Fits)\/(ok=true/\∃H T tv,M2 w g f wb hb base H T tv/\Inv (B6 g f) H T/\T.length+left f.n H<=k/\k<=f.n/\H 0=0/\∀a,a < f.n->0<=H a->a∈T\/(B6 g f).Shut H a)
theorem nK (B:Nat) (g:PgR) (f:FnR) (w:World) (hB0:0 < B) (hB:B<=w.heap.size) (hg:I5 B w g) (hf:L4 B w f) (hgood:uJ g f) (ht:Tab w) :
  Calls prog 175 #[.agg #[.slice g.a g.n g.c],.agg #[.int .i64 f.p,.int .i64 f.l,.slice f.a f.n f.c]] w fun e w'=>O8 g f w e w':=by
 have zg:1<=f.n:=hgood.1;have zi:f.n<=60:=hgood.2.1;have zf:=Go.run_make_row' (P:=prog) 24 3 (.int .i64 0) 8 underlying24 dW rfl .i64 .i64 f.n R4 R4;go_enter func175,ntmps175;go_wp2
 go_region
 ·have xk:(((((w.alloc (Obj.cells #[.slice g.a g.n g.c] 41)).alloc (Obj.cells #[.int .i64 f.p,.int .i64 f.l,.slice f.a f.n f.c] 163)).alloc (Obj.cells (madeCells #[Value.int IntKind.i64 0] f.n) 3)).alloc (Obj.cells #[.slice g.a g.n g.c,.slice f.a f.n f.c,.slice (some { block:=(w.heap.size+1+1),off:=0 }) f.n f.n,.slice none 0 0] 249)).drew).rowIs (w.heap.size+1+1) 3 f.n (fun _=>.int .i64 0):=by
   have:=((World.rowIs_made ((w.alloc (Obj.cells #[.slice g.a g.n g.c] 41)).alloc (Obj.cells #[.int .i64 f.p,.int .i64 f.l,.slice f.a f.n f.c] 163)) (.int .i64 0) f.n 3).alloc (Obj.cells #[.slice g.a g.n g.c,.slice f.a f.n f.c,.slice (some { block:=(w.heap.size+1+1),off:=0 }) f.n f.n,.slice none 0 0] 249)).drew;simpa using this
  generalize hqW1:(((((w.alloc (Obj.cells #[.slice g.a g.n g.c] 41)).alloc (Obj.cells #[.int .i64 f.p,.int .i64 f.l,.slice f.a f.n f.c] 163)).alloc (Obj.cells (madeCells #[Value.int IntKind.i64 0] f.n) 3)).alloc (Obj.cells #[.slice g.a g.n g.c,.slice f.a f.n f.c,.slice (some { block:=(w.heap.size+1+1),off:=0 }) f.n f.n,.slice none 0 0] 249)).drew)=W1 at *
  have d0:W1.cell? ⟨(w.heap.size+1+1+1),0,none⟩=some (.slice g.a g.n g.c):=by subst hqW1;go_simp
  have d1:W1.cell? ⟨(w.heap.size+1+1+1),1,none⟩=some (.slice f.a f.n f.c):=by subst hqW1;go_simp
  have d2:W1.cell? ⟨(w.heap.size+1+1+1),2,none⟩=some (.slice (some ⟨(w.heap.size+1+1),0,none⟩) f.n f.n):=by subst hqW1;go_simp
  have d3:W1.cell? ⟨(w.heap.size+1+1+1),3,none⟩=some (.slice none 0 0):=by subst hqW1;go_simp
  have dz:W1.frozen? ⟨(w.heap.size+1+1+1),3,none⟩=false:=by subst hqW1;go_simp
  have zk:W1.heap.size=w.heap.size+4:=by subst hqW1;simp
  have xb:L0d w W1:=by subst hqW1;repeat (first | exact L3b _ _ | refine L3c ?_ | refine L3a ?_ Q1 _)
  clear hqW1;obtain⟨wb,yd⟩:∃wb,wb=(w.heap.size+1+1+1):=⟨_,rfl⟩
  obtain⟨hb,yf⟩:∃hb,hb=(w.heap.size+1+1):=⟨_,rfl⟩
  have xg:M2 W1 g f wb hb (w.heap.size+4) (fun _=>0) [] (.slice none 0 0):=by
   rw[yd,yf];exact⟨by omega,by omega,by omega,by omega,d0,d1,d2,d3,dz,xk,World.ownsRow_nil _ _ _ _⟩
  rw[<- yd,<- yf];have yi:w.heap.size<=wb:=by omega
  have yh:w.heap.size<=hb:=by omega
  clear xk d0 d1 d2 d3 dz yd yf zf;have d2:=xg.c2;go_wp2
  clear d2;go_loopw [22] (fun v wr=>∃i:Nat,i<=f.n/\v=.int .i64 i/\M2 wr g f wb hb (w.heap.size+4) (fun j=>if j < i then -1 else 0) [] (.slice none 0 0)/\L0d w wr) (fun v _=>f.n - (intOf v).toNat)
  case atStart=>exact ⟨0,L4c _,rfl,xg,xb⟩
  case round =>
   obtain⟨i,hi,rfl,xa,xp⟩:=hrel;have zl:=xa.size;by_cases hlt:i < f.n
   ·have d2:=xa.c2
    have kh:=xa.row.cell hlt;have kf:=xa.row.frozen i;have ys:=xa.ne;go_wp2
    go_roundw
    case rel =>
     go_light
     refine⟨i+1,by omega,by go_num,⟨xa.ne,xa.ltw,xa.lth,by simpa using xa.size,?_,?_,?_,?_,?_,(xa.row.set i (.int .i64 (-1))).congr (fun j _=>?_),World.ownsRow_nil _ _ _ _⟩,xp.setCell yh _⟩
     ·have:=xa.c0;go_simp
     ·have:=xa.c1;go_simp
     ·go_simp
     ·have:=xa.c3;go_simp
     ·have:=xa.fz;go_simp
     ·by_cases e:j=i
      ·subst e;rw [if_pos rfl,if_pos R4]
      ·rw [if_neg e]
       by_cases h1:j < i
       ·rw [if_pos h1,if_pos R4]
       ·rw [if_neg h1,if_neg R4]
    case measure=>simp [intOf];omega
   ·have hH:∀j,j < f.n->(if j < i then (-1:Int) else 0) = -1:=fun j hj=>by rw [if_pos R4]
    have xo:M2 wr g f wb hb (w.heap.size+4) (fun _ => -1) [] (.slice none 0 0) :=
     ⟨xa.ne,xa.ltw,xa.lth,xa.size,xa.c0,xa.c1,xa.c2,xa.c3,xa.fz,xa.row.congr (fun j hj=>by rw [hH j hj]),xa.own⟩
    clear xa hH;go_wp2_with fail;have xd:=bY g f wb hb (w.heap.size+4) (fun _ => -1) [] (.slice none 0 0) 0 0 wr xo R5;rw[show ((0:Nat):Int)=0 from rfl] at xd;refine xd.mono ?_;clear xd;rintro e w2 ⟨H,T,tv,ok,rfl,yo,xy,xl⟩;have xt:L0d w w2:=xp.trans (xl.below R4 (W0 xo yi yh));obtain⟨rfl,rfl,rfl⟩:ok=true/\H=(fun i=>if i=0 then 0 else -1)/\T=[0]:=by
     rcases xy with ⟨_,h⟩ | ⟨_,_,h,_⟩ | ⟨_,_,h,_⟩ | ⟨h1,_,_,h2,h3⟩
     ·omega
     ·exact absurd rfl h
     ·exact absurd rfl h
     ·exact ⟨h1,h2,h3⟩
    have za:nY g f wb hb (w.heap.size+4) w2 f.n true:=by
     refine L4b ⟨rfl,_,_,tv,yo,⟨fun a ha=>?_,fun t htm=>?_⟩,?_,L1c _,by simp,fun a ha hz=>?_⟩
     ·by_cases e:a=0
      ·subst e;simp only [if_pos];exact ⟨by omega,by omega,fun _=>(B6 g f).reach_first⟩
      ·simp only [if_neg e];exact ⟨by omega,by omega,fun h=>by omega⟩
     ·obtain rfl:t=0:=by simpa using htm
      exact⟨zg,by simp⟩
     ·have h1:=iH (n:=f.n) (H:=fun _ => -1) (c:=0) (v:=0) R4 R5 R4
      have h2:left f.n (fun _ => -1)<=f.n:=by unfold left;exact L5a (List.length_filter_le _ _) R5
      simp only[List.length_cons,List.length_nil];omega
     ·by_cases e:a=0
      ·subst e;exact L4a R5
      ·simp only [if_neg e] at hz;omega
    clear xy yo xl xo xp xg xb;go_wp2_with fail;go_loopg [8] f.n (fun k v wx=>∃ok:Bool,v=.bool ok/\nY g f wb hb (w.heap.size+4) wx k ok/\L0d w wx)
    case atStart=>exact ⟨true,rfl,za,xt⟩
    case round =>
     obtain⟨ok,rfl,xq,xh⟩:=hrel;rcases xq with ⟨rfl,yg⟩ | ⟨rfl,H,T,tv,xc,xr,yc,zh,yn,yl⟩
     ·go_wp2_with fail
      go_ret2;exact V6 _ false rfl ⟨fun h=>(by cases h),fun h=>absurd h yg⟩ xh
     ·have yk:=(show Hid _ from yn);clear yn
      have ym:=(show Hid _ from yl);clear yl;have d2:=xc.c2;have d3:=xc.c3;have fz:=xc.fz;have zb:wb < wr.heap.size:=L0a xc.ltw xc.size;have xm:T=[]->O8 g f w (.returned (.tuple #[.slice (some ⟨hb,0,none⟩) f.n f.n,.bool true])) wr:=fun hTe =>
       V6 _ true rfl ⟨fun _=>G1.fits_of_shut (H:=H) (by show 0 < f.n;omega) yk.out (fun a=>(aD _).1) (fun a ha hz=>(ym.out a ha hz).elim (fun h=>by rw [hTe] at h;cases h) id),fun _=>rfl⟩ xh
      have xn:=(show Hid _ from xm);clear xm;rcases xc.own.2 with ⟨hv,h0⟩ | ⟨gb,ya,yx,hv,zm,xx,xs,yz,yr,xz⟩
      ·obtain rfl:T=[]:=List.length_eq_zero_iff.1 h0
       rw[hv] at d3;clear hv h0;go_wp2_with fail;go_ret2;exact xn.out R5
      ·clear yx xx yr xz
       rcases List.eq_nil_or_concat T with rfl | ⟨T0,t,rfl⟩
       ·rw [hv] at d3
        simp only[List.length_nil] at d3;clear hv;go_wp2_with fail;go_ret2;exact xn.out R5
       ·have yj:(T0.concat t).length=T0.length+1:=by simp
        rw[yj] at hv yc xs;have xe:=xc.own;rw[hv,yj] at xe;have zj:wr.cell? ⟨gb,T0.length,none⟩=some (.int .i64 (t:Int)):=by
         have:=xe.cells (g:=gb) rfl T0.length (.int .i64 (t:Int)) (by simp [mA]);rw[Go.WideShapes.add_plain,Nat.zero_add] at this;exact this
        have xi:wr.ownsRow (w.heap.size+4) 3 1 (.slice (some ⟨gb,0,none⟩) T0.length ya) T0.length (mA T0):=ownsRow_pop (last:=[.int .i64 (t:Int)]) (by simp [mA]) (by simpa [mA] using xe);rw[hv] at d3;have ze:gb < wr.heap.size:=(xe.lt gb rfl).2;have yb:T0.length<=59:=by omega
        obtain⟨zc,yu⟩:=xr.2 t R5;have yp:M2 (wr.setCell ⟨wb,3,none⟩ (.slice (some ⟨gb,0,none⟩) T0.length ya)) g f wb hb (w.heap.size+4) H T0 (.slice (some ⟨gb,0,none⟩) T0.length ya):=by
         have zn:=xc.ne;refine⟨xc.ne,xc.ltw,xc.lth,by simpa using xc.size,?_,?_,?_,?_,?_,xc.row.setOther (by exact xc.ne.symm) _,ownsRow_setCell_below xi (a:=⟨wb,3,none⟩) xc.ltw _⟩
         ·have:=xc.c0;go_light;go_simp
         ·have:=xc.c1;go_light;go_simp
         ·go_light;go_simp
         ·go_light;go_simp
         ·go_light;go_simp
        have xb:L0d w (wr.setCell ⟨wb,3,none⟩ (.slice (some ⟨gb,0,none⟩) T0.length ya)):=xh.setCell yi _;have xw:Inv (B6 g f) H T0:=⟨xr.1,fun x hx=>xr.2 x (by simp [hx])⟩;have xf:=oJ w.heap.size g f wb hb (w.heap.size+4) H T0 _ t _ yp R4 yi yh ((hg.mono hB).below xb) ((hf.mono hB).below xb) hgood (ht.below hB0 (xb.mono hB)) yb zc xw yu
        have zd:=(show Hid _ from xf);clear xf;clear hv yj xe xi yp;go_wp2_with fail;refine Calls.mono zd.out ?_;rintro e w3 ⟨ok,H',T',yq,rfl,yy,xj⟩;have xv:L0d w w3:=xb.trans yy;have ye:nY g f wb hb (w.heap.size+4) w3 (gk - 1) ok:=by
         rcases xj with ⟨rfl,yg⟩ | ⟨rfl,yw,yv,xu,yt⟩
         ·exact L4a ⟨rfl,yg⟩
         ·refine L4b ⟨rfl,H',T',yq,yw,yv,by have:=xu.2.2.2;omega,by omega,by rw [xu.1 0 (by rw [yk.out];omega)];exact yk.out,fun a ha hz=>?_⟩
          rcases xu.2.2.1 a ha hz with hz0 | hm
          ·rcases ym.out a ha hz0 with hm | hm
           ·by_cases e:a=t
            ·subst e;exact L4b yt
            ·exact L4a (xu.2.1 a (by simpa [e] using hm))
           ·exact L4b (hm.ext (aD _).1 hz0 xu.1)
          ·exact L4a hm
        clear xj;go_wp2_with fail;go_roundg (gk - 1)
        case measure=>go_light;omega
        case rel=>exact ⟨ok,rfl,ye,xv⟩
 ·have xk:(((((w.alloc (Obj.cells #[.slice g.a g.n g.c] 41)).alloc (Obj.cells #[.int .i64 f.p,.int .i64 f.l,.slice f.a f.n f.c] 163)).alloc (Obj.cells #[.slice g.a g.n g.c,.slice f.a f.n f.c,.slice (some { block:=(w.heap.size+1+1+1),off:=0 }) f.n f.n,.slice none 0 0] 249)).alloc (Obj.cells (madeCells #[Value.int IntKind.i64 0] f.n) 3)).drew).rowIs (w.heap.size+1+1+1) 3 f.n (fun _=>.int .i64 0):=by
   have:=(World.rowIs_made (((w.alloc (Obj.cells #[.slice g.a g.n g.c] 41)).alloc (Obj.cells #[.int .i64 f.p,.int .i64 f.l,.slice f.a f.n f.c] 163)).alloc (Obj.cells #[.slice g.a g.n g.c,.slice f.a f.n f.c,.slice (some { block:=(w.heap.size+1+1+1),off:=0 }) f.n f.n,.slice none 0 0] 249)) (.int .i64 0) f.n 3).drew;simpa using this
  generalize hqW1:(((((w.alloc (Obj.cells #[.slice g.a g.n g.c] 41)).alloc (Obj.cells #[.int .i64 f.p,.int .i64 f.l,.slice f.a f.n f.c] 163)).alloc (Obj.cells #[.slice g.a g.n g.c,.slice f.a f.n f.c,.slice (some { block:=(w.heap.size+1+1+1),off:=0 }) f.n f.n,.slice none 0 0] 249)).alloc (Obj.cells (madeCells #[Value.int IntKind.i64 0] f.n) 3)).drew)=W1 at *
  have d0:W1.cell? ⟨(w.heap.size+1+1),0,none⟩=some (.slice g.a g.n g.c):=by subst hqW1;go_simp
  have d1:W1.cell? ⟨(w.heap.size+1+1),1,none⟩=some (.slice f.a f.n f.c):=by subst hqW1;go_simp
  have d2:W1.cell? ⟨(w.heap.size+1+1),2,none⟩=some (.slice (some ⟨(w.heap.size+1+1+1),0,none⟩) f.n f.n):=by subst hqW1;go_simp
  have d3:W1.cell? ⟨(w.heap.size+1+1),3,none⟩=some (.slice none 0 0):=by subst hqW1;go_simp
  have dz:W1.frozen? ⟨(w.heap.size+1+1),3,none⟩=false:=by subst hqW1;go_simp
  have zk:W1.heap.size=w.heap.size+4:=by subst hqW1;simp
  have xb:L0d w W1:=by subst hqW1;repeat (first | exact L3b _ _ | refine L3c ?_ | refine L3a ?_ Q1 _)
  clear hqW1;obtain⟨wb,yd⟩:∃wb,wb=(w.heap.size+1+1):=⟨_,rfl⟩
  obtain⟨hb,yf⟩:∃hb,hb=(w.heap.size+1+1+1):=⟨_,rfl⟩
  have xg:M2 W1 g f wb hb (w.heap.size+4) (fun _=>0) [] (.slice none 0 0):=by
   rw[yd,yf];exact⟨by omega,by omega,by omega,by omega,d0,d1,d2,d3,dz,xk,World.ownsRow_nil _ _ _ _⟩
  rw[<- yf,<- yd];have yi:w.heap.size<=wb:=by omega
  have yh:w.heap.size<=hb:=by omega
  clear xk d0 d1 d2 d3 dz yd yf zf;have d2:=xg.c2;go_wp2
  clear d2;go_loopw [22] (fun v wr=>∃i:Nat,i<=f.n/\v=.int .i64 i/\M2 wr g f wb hb (w.heap.size+4) (fun j=>if j < i then -1 else 0) [] (.slice none 0 0)/\L0d w wr) (fun v _=>f.n - (intOf v).toNat)
  case atStart=>exact ⟨0,L4c _,rfl,xg,xb⟩
  case round =>
   obtain⟨i,hi,rfl,xa,xp⟩:=hrel;have zl:=xa.size;by_cases hlt:i < f.n
   ·have d2:=xa.c2
    have kh:=xa.row.cell hlt;have kf:=xa.row.frozen i;have ys:=xa.ne;go_wp2
    go_roundw
    case rel =>
     go_light
     refine⟨i+1,by omega,by go_num,⟨xa.ne,xa.ltw,xa.lth,by simpa using xa.size,?_,?_,?_,?_,?_,(xa.row.set i (.int .i64 (-1))).congr (fun j _=>?_),World.ownsRow_nil _ _ _ _⟩,xp.setCell yh _⟩
     ·have:=xa.c0;go_simp
     ·have:=xa.c1;go_simp
     ·go_simp
     ·have:=xa.c3;go_simp
     ·have:=xa.fz;go_simp
     ·by_cases e:j=i
      ·subst e;rw [if_pos rfl,if_pos R4]
      ·rw [if_neg e]
       by_cases h1:j < i
       ·rw [if_pos h1,if_pos R4]
       ·rw [if_neg h1,if_neg R4]
    case measure=>simp [intOf];omega
   ·have hH:∀j,j < f.n->(if j < i then (-1:Int) else 0) = -1:=fun j hj=>by rw [if_pos R4]
    have xo:M2 wr g f wb hb (w.heap.size+4) (fun _ => -1) [] (.slice none 0 0) :=
     ⟨xa.ne,xa.ltw,xa.lth,xa.size,xa.c0,xa.c1,xa.c2,xa.c3,xa.fz,xa.row.congr (fun j hj=>by rw [hH j hj]),xa.own⟩
    clear xa hH;go_wp2_with fail;have xd:=bY g f wb hb (w.heap.size+4) (fun _ => -1) [] (.slice none 0 0) 0 0 wr xo R5;rw[show ((0:Nat):Int)=0 from rfl] at xd;refine xd.mono ?_;clear xd;rintro e w2 ⟨H,T,tv,ok,rfl,yo,xy,xl⟩;have xt:L0d w w2:=xp.trans (xl.below R4 (W0 xo yi yh));obtain⟨rfl,rfl,rfl⟩:ok=true/\H=(fun i=>if i=0 then 0 else -1)/\T=[0]:=by
     rcases xy with ⟨_,h⟩ | ⟨_,_,h,_⟩ | ⟨_,_,h,_⟩ | ⟨h1,_,_,h2,h3⟩
     ·omega
     ·exact absurd rfl h
     ·exact absurd rfl h
     ·exact ⟨h1,h2,h3⟩
    have za:nY g f wb hb (w.heap.size+4) w2 f.n true:=by
     refine L4b ⟨rfl,_,_,tv,yo,⟨fun a ha=>?_,fun t htm=>?_⟩,?_,L1c _,by simp,fun a ha hz=>?_⟩
     ·by_cases e:a=0
      ·subst e;simp only [if_pos];exact ⟨by omega,by omega,fun _=>(B6 g f).reach_first⟩
      ·simp only [if_neg e];exact ⟨by omega,by omega,fun h=>by omega⟩
     ·obtain rfl:t=0:=by simpa using htm
      exact⟨zg,by simp⟩
     ·have h1:=iH (n:=f.n) (H:=fun _ => -1) (c:=0) (v:=0) R4 R5 R4
      have h2:left f.n (fun _ => -1)<=f.n:=by unfold left;exact L5a (List.length_filter_le _ _) R5
      simp only[List.length_cons,List.length_nil];omega
     ·by_cases e:a=0
      ·subst e;exact L4a R5
      ·simp only [if_neg e] at hz;omega
    clear xy yo xl xo xp xg xb;go_wp2_with fail;go_loopg [8] f.n (fun k v wx=>∃ok:Bool,v=.bool ok/\nY g f wb hb (w.heap.size+4) wx k ok/\L0d w wx)
    case atStart=>exact ⟨true,rfl,za,xt⟩
    case round =>
     obtain⟨ok,rfl,xq,xh⟩:=hrel;rcases xq with ⟨rfl,yg⟩ | ⟨rfl,H,T,tv,xc,xr,yc,zh,yn,yl⟩
     ·go_wp2_with fail
      go_ret2;exact V6 _ false rfl ⟨fun h=>(by cases h),fun h=>absurd h yg⟩ xh
     ·have yk:=(show Hid _ from yn);clear yn
      have ym:=(show Hid _ from yl);clear yl;have d2:=xc.c2;have d3:=xc.c3;have fz:=xc.fz;have zb:wb < wr.heap.size:=L0a xc.ltw xc.size;have xm:T=[]->O8 g f w (.returned (.tuple #[.slice (some ⟨hb,0,none⟩) f.n f.n,.bool true])) wr:=fun hTe =>
       V6 _ true rfl ⟨fun _=>G1.fits_of_shut (H:=H) (by show 0 < f.n;omega) yk.out (fun a=>(aD _).1) (fun a ha hz=>(ym.out a ha hz).elim (fun h=>by rw [hTe] at h;cases h) id),fun _=>rfl⟩ xh
      have xn:=(show Hid _ from xm);clear xm;rcases xc.own.2 with ⟨hv,h0⟩ | ⟨gb,ya,yx,hv,zm,xx,xs,yz,yr,xz⟩
      ·obtain rfl:T=[]:=List.length_eq_zero_iff.1 h0
       rw[hv] at d3;clear hv h0;go_wp2_with fail;go_ret2;exact xn.out R5
      ·clear yx xx yr xz
       rcases List.eq_nil_or_concat T with rfl | ⟨T0,t,rfl⟩
       ·rw [hv] at d3
        simp only[List.length_nil] at d3;clear hv;go_wp2_with fail;go_ret2;exact xn.out R5
       ·have yj:(T0.concat t).length=T0.length+1:=by simp
        rw[yj] at hv yc xs;have xe:=xc.own;rw[hv,yj] at xe;have zj:wr.cell? ⟨gb,T0.length,none⟩=some (.int .i64 (t:Int)):=by
         have:=xe.cells (g:=gb) rfl T0.length (.int .i64 (t:Int)) (by simp [mA]);rw[Go.WideShapes.add_plain,Nat.zero_add] at this;exact this
        have xi:wr.ownsRow (w.heap.size+4) 3 1 (.slice (some ⟨gb,0,none⟩) T0.length ya) T0.length (mA T0):=ownsRow_pop (last:=[.int .i64 (t:Int)]) (by simp [mA]) (by simpa [mA] using xe);rw[hv] at d3;have ze:gb < wr.heap.size:=(xe.lt gb rfl).2;have yb:T0.length<=59:=by omega
        obtain⟨zc,yu⟩:=xr.2 t R5;have yp:M2 (wr.setCell ⟨wb,3,none⟩ (.slice (some ⟨gb,0,none⟩) T0.length ya)) g f wb hb (w.heap.size+4) H T0 (.slice (some ⟨gb,0,none⟩) T0.length ya):=by
         have zn:=xc.ne;refine⟨xc.ne,xc.ltw,xc.lth,by simpa using xc.size,?_,?_,?_,?_,?_,xc.row.setOther (by exact xc.ne.symm) _,ownsRow_setCell_below xi (a:=⟨wb,3,none⟩) xc.ltw _⟩
         ·have:=xc.c0;go_light;go_simp
         ·have:=xc.c1;go_light;go_simp
         ·go_light;go_simp
         ·go_light;go_simp
         ·go_light;go_simp
        have xb:L0d w (wr.setCell ⟨wb,3,none⟩ (.slice (some ⟨gb,0,none⟩) T0.length ya)):=xh.setCell yi _;have xw:Inv (B6 g f) H T0:=⟨xr.1,fun x hx=>xr.2 x (by simp [hx])⟩;have xf:=oJ w.heap.size g f wb hb (w.heap.size+4) H T0 _ t _ yp R4 yi yh ((hg.mono hB).below xb) ((hf.mono hB).below xb) hgood (ht.below hB0 (xb.mono hB)) yb zc xw yu
        have zd:=(show Hid _ from xf);clear xf;clear hv yj xe xi yp;go_wp2_with fail;refine Calls.mono zd.out ?_;rintro e w3 ⟨ok,H',T',yq,rfl,yy,xj⟩;have xv:L0d w w3:=xb.trans yy;have ye:nY g f wb hb (w.heap.size+4) w3 (gk - 1) ok:=by
         rcases xj with ⟨rfl,yg⟩ | ⟨rfl,yw,yv,xu,yt⟩
         ·exact L4a ⟨rfl,yg⟩
         ·refine L4b ⟨rfl,H',T',yq,yw,yv,by have:=xu.2.2.2;omega,by omega,by rw [xu.1 0 (by rw [yk.out];omega)];exact yk.out,fun a ha hz=>?_⟩
          rcases xu.2.2.1 a ha hz with hz0 | hm
          ·rcases ym.out a ha hz0 with hm | hm
           ·by_cases e:a=t
            ·subst e;exact L4b yt
            ·exact L4a (xu.2.1 a (by simpa [e] using hm))
           ·exact L4b (hm.ext (aD _).1 hz0 xu.1)
          ·exact L4a hm
        clear xj;go_wp2_with fail;go_roundg (gk - 1)
        case measure=>go_light;omega
        case rel=>exact ⟨ok,rfl,ye,xv⟩
end Go.Proofs.YtbkmgoffiigdbaaGreatDoor
