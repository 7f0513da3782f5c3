import Derived.Test.YtbkmgoffiigdbaaGreatDoorVAd
import Derived.RegionTactic
import Derived.BigRegion
import Derived.WalkSmall
namespace Go.Proofs.YtbkmgoffiigdbaaGreatDoor
open Go.RowKit Go.Sort Go.Proofs.Tryz
set_option maxHeartbeats 4000000
set_option maxRecDepth 100000
theorem oP (B:Nat) (g:PgR) (f:FnR) (wb hb base:Nat) (H:Nat->Int) (T:List Nat) (tv:Value) (pc:Nat) (w:World) (hw:L9 w g f wb hb base H T tv) (hB0:0 < B) (hB1:B<=wb) (hB2:B<=hb)
  (hg:I7 B w g) (hf:L1 B w f) (hgood:uM g f) (ht:Tab w) (hT:T.length<=59) (hpc:pc < f.n) (hinv:Inv (B6 g f) H T) (hH:0<=H pc) :
  Calls prog 217 #[.pointer (some ⟨wb,0,none⟩),.int .i64 (pc:Int)] w fun e w'=>jE B g f wb hb base H T pc w e w':=by
 have zb:f.n<=60:=hgood.2.1;have zr:wb < w.heap.size:=L0a hw.ltw hw.size;have zn:hb < w.heap.size:=L0a hw.lth hw.size;obtain⟨ha,zp,xn⟩:=hf.2 R4;obtain⟨co,ca⟩:=xn pc hpc;clear xn;have xv:=hgood.2.2.2 pc hpc;have xj:=(show Hid _ from xv);clear xv;obtain⟨yy,yl⟩:=iL xj.out;obtain⟨k,hk⟩:=Int.eq_ofNat_of_zero_le yy;rw[hk] at co yy yl
 have yf:k < 28:=by omega
 obtain⟨q,hq⟩:∃q,q=(B6 g f).pop pc:=⟨_,rfl⟩
 obtain⟨zd,zf⟩:=hgood.pop_bd hpc;rw[<- hq] at zd zf;obtain⟨r,hr⟩:∃r,r=(B6 g f).push pc:=⟨_,rfl⟩
 obtain⟨zi,zl⟩:=aH (f.op pc);rw[show M2 (f.op pc)=r from hr.symm] at zi zl;have HP:Hid (∀W,Below (w.alloc (Obj.cells #[.int .i64 (k:Int),.int .i64 (f.ar pc)] 165)).heap.size (w.alloc (Obj.cells #[.int .i64 (k:Int),.int .i64 (f.ar pc)] 165)) W->Calls prog 180 #[.agg #[.slice g.a g.n g.c],.agg #[.int .i64 (k:Int),.int .i64 (f.ar pc)]] W fun e w'=>e=.returned (.int .i64 q)/\Below W.heap.size W w'):=by
  intro W hW;have ym:Below w.heap.size w W:=C6 hW ((Below.refl _ _).alloc (L1c _) _) R5;have zs:=hw.size;have zt:=hw.ltw;have e:(B6 g f).pop pc=N7 k (g.f (f.ar pc).toNat).p:=by show N7 (f.op pc) _=_;rw [hk]
  rw[hq,e];refine mI B g k (f.ar pc) W (by have:=ym.size;omega) (hg.below (ym.mono R4)) (ht.below hB0 (ym.mono R4)) yf (fun ho=>?_);refine N1 (l:=f.l) (nc:=f.n) (op:=f.op pc) xj.out ?_;rw[hk];exact ho
 obtain⟨_,t1,t2,_⟩:=ht.2 k yf;have yw:M2 (k:Int)=r:=by rw [hr];show _=M2 (f.op pc);rw [hk]
 rw[yw] at t1;clear yw;have zg:=ht.1;have ys:(B6 g f).next pc=D7 pc k (f.ar pc):=by show D7 pc (f.op pc) _=_;rw [hk]
 have yg:=(show Hid _ from ys);clear ys;have HQ:=(show Hid _ from hq);clear hq;have HR:=(show Hid _ from hr);clear hr;have HK:=(show Hid _ from hk);clear hk;obtain⟨zo,ze,yz⟩:=hinv.1 pc hpc;have xi:=yz hH;have xa:=(show Hid _ from xi);clear xi yz;have c0:=hw.c0;have c1:=hw.c1;have c2:=hw.c2;rw[ha] at c1;have kh:=hw.row.cell hpc;have HA:=(show Hid _ from ha);clear ha;have zc:f.b < w.heap.size:=by omega
 go_enter func217,ntmps217;go_wp2
 have k0:=cell_regrown (w:=(w.alloc (Obj.cells #[.int .i64 (k:Int),.int .i64 (f.ar pc)] 165))) (a:=⟨wb,0,none⟩) (v:=.slice g.a g.n g.c) Q9;have k1:=cell_regrown (w:=(w.alloc (Obj.cells #[.int .i64 (k:Int),.int .i64 (f.ar pc)] 165))) (a:=⟨wb,2,none⟩) (v:=.slice (some ⟨hb,0,none⟩) f.n f.n) Q9;have k2:=cell_regrown (w:=(w.alloc (Obj.cells #[.int .i64 (k:Int),.int .i64 (f.ar pc)] 165))) (a:=⟨hb,pc,none⟩) (v:=.int .i64 (H pc)) Q9
 have k3:=cell_regrown (w:=(w.alloc (Obj.cells #[.int .i64 (k:Int),.int .i64 (f.ar pc)] 165))) (a:=⟨w.heap.size,0,none⟩) (v:=.int .i64 (k:Int)) Q9;have k4:=cell_regrown (w:=(w.alloc (Obj.cells #[.int .i64 (k:Int),.int .i64 (f.ar pc)] 165))) (a:=⟨w.heap.size,1,none⟩) (v:=.int .i64 (f.ar pc)) Q9;have yj:Below w.heap.size w (w.alloc (Obj.cells #[.int .i64 (k:Int),.int .i64 (f.ar pc)] 165)):=(Below.refl _ _).alloc (L1c _) _
 have yx:(w.alloc (Obj.cells #[.int .i64 (k:Int),.int .i64 (f.ar pc)] 165)).heap.size=w.heap.size+1:=by simp
 generalize (w.alloc (Obj.cells #[.int .i64 (k:Int),.int .i64 (f.ar pc)] 165))=W at *
 refine wp_region_quiet_below Q7 Q7 ?_
 repeat (first
  | go_big_quiet_step ((go_at_call 180;exact Calls.regrown_of (HP.out _ (below_regrown _ _ _))))
  | quiet_step ((go_at_call 180;exact Calls.regrown_of (HP.out _ (below_regrown _ _ _)))))
 refine wpQuiet_nil ?_;intro _ hw';obtain⟨⟨dq,xo⟩,hw''⟩:=hw';subst hw'';have yi:Below w.heap.size w (grow (redrawn W dq) xo):=yj.trans ((below_regrown W dq xo).mono yj.size);have e3:=k3 dq xo;have e4:=k4 dq xo;have zq:w.heap.size+1<=(grow (redrawn W dq) xo).heap.size:=by rw [<- yx];exact (below_regrown W dq xo).size
 clear k0 k1 k2 k3 k4 HP yj yx;generalize grow (redrawn W dq) xo=W2 at *
 have xq:L9 W2 g f wb hb base H T tv:=hw.but yi;have xt:Below B w W2:=yi.mono R4;rw[<- yi.cell (p:=⟨0,_,none⟩) zg] at t1 t2;have zm:0 < W2.heap.size:=by omega
 clear c0 c1 c2 kh co ca;have xh:Hid ((B6 g f).behind pc (H pc)=H pc - q+r):=by show _=_;unfold G4.behind;rw [<- HQ.out,<- HR.out]
 by_cases hb1:H pc - q < 0
 ·go_wp2_with fail
  go_ret;exact S5 rfl xt (G4.not_fits_pop xa.out (Or.inl (by rw [<- HQ.out];omega)))
 by_cases hb10:10 < H pc - q+r
 ·go_wp2_with fail
  go_ret;exact S5 rfl xt (G4.not_fits_pop xa.out (Or.inr (by rw [xh.out];exact hb10)))
 have yb:0<=H pc - q+r:=by omega
 have xg:H pc - q+r<=10:=by omega
 have ye:(B6 g f).pop pc<=H pc:=by rw [<- HQ.out];omega
 have xk:=(show Hid _ from ye);clear ye;have ya:∀b,b=w.heap.size->¬rT wb hb tv b:=by
  rintro b rfl (he | he | he)
  ·omega
  ·omega
  ·have:=(hw.own.lt _ he).2;omega
 have yn:=(show Hid _ from ya);clear ya;by_cases h12:k=12
 ·have ho:f.op pc=12:=by rw [HK.out,h12];rfl
  obtain⟨yc,yq⟩:=V2 xj.out (Or.inl ho);obtain⟨y,hy⟩:=Int.eq_ofNat_of_zero_le yc;have xc:(B6 g f).next pc=[y]:=by rw [yg.out,h12,hy];simp [D7]
  have xb:=(show Hid _ from xc);rw[show dR k=1 by simp [dR,h12]] at t2;rw[hy] at e4;clear xc h12 ho yc yq hy;go_wp2_with fail;refine (cK g f wb hb base H T tv y (H pc - q+r) W2 xq R4).mono ?_;rintro e w3 ⟨H',T',xx,ok,rfl,xs,xf,xe⟩;have xm:Below B w w3:=xt.trans (xe.below R4 (X0 xq hB1 hB2));go_wp2_with fail;go_ret;rcases eS hinv xa.out (c:=y) (by rw [xb.out];simp) xh.out yb xg xf with ⟨rfl,xp⟩ | ⟨rfl,xz,xl,xy,xu⟩
  ·exact S5 rfl xm xp
  ·have he:H' pc=H pc:=xl.1 pc hH
   exact Z9 H' T' xx rfl xm xs xz xl ⟨by rw [he];exact xk.out,by rw [he,xh.out];exact xg,fun c hc=>by
    rw[xb.out] at hc;obtain rfl:c=y:=by simpa using hc
    exact⟨xy,by rw [he,xh.out];exact xu⟩⟩
 by_cases h13:k=13
 ·have ho:f.op pc=13:=by rw [HK.out,h13];rfl
  obtain⟨yc,yq⟩:=V2 xj.out (Or.inr ho);obtain⟨y,hy⟩:=Int.eq_ofNat_of_zero_le yc;have xc:(B6 g f).next pc=[y,pc+1]:=by rw [yg.out,h13,hy];simp [D7]
  have xb:=(show Hid _ from xc);rw[show dR k=2 by simp [dR,h13]] at t2;rw[hy] at e4;clear xc h13 h12 ho yc yq hy;go_wp2_with fail;have xd:=cK g f wb hb base H T tv (pc+1) (H pc - q+r) W2 xq R4;rw[show ((pc+1:Nat):Int)=(pc:Int)+1 from by omega] at xd;refine xd.mono ?_;clear xd;rintro e w3 ⟨H',T',xx,ok,rfl,xs,xf,xe⟩;have xm:Below B w w3:=xt.trans (xe.below R4 (X0 xq hB1 hB2))
  rcases eS hinv xa.out (c:=pc+1) (by rw [xb.out];simp) xh.out yb xg xf with ⟨rfl,xp⟩ | ⟨rfl,xz,xl,xy,xu⟩
  ·go_wp2_with fail
   go_ret;exact S5 rfl xm xp
  ·have e5:w3.cell? ⟨w.heap.size,1,none⟩=some (.int .i64 (y:Int)):=by rw [xe.cell (by show w.heap.size < W2.heap.size;omega) (yn.out _ rfl)];exact e4
   have zh:=xe.size;have zk:T'.length<=T.length+1:=by
    rcases xf with ⟨h,_⟩ | ⟨h,_⟩ | ⟨_,_,_,_,_,rfl⟩ | ⟨_,_,_,_,rfl⟩
    ·cases h
    ·cases h
    ·omega
    ·simp
   have yt:=(show Hid _ from xl);clear xl;have yv:=(show Hid _ from xu);clear xu xf;go_wp2_with fail;refine (cK g f wb hb base H' T' xx y (H pc - q+r) w3 xs R4).mono ?_;rintro e w4 ⟨yu,zj,yo,ok,rfl,za,xf,xw⟩;go_wp2_with fail;go_ret;have yd:Below B w w4:=xm.trans (xw.below R4 (X0 xs hB1 hB2));have yr:H' pc=H pc:=yt.out.1 pc hH;rcases eS xz (a:=pc) (b:=H pc) xa.out (c:=y) (by rw [xb.out];simp) xh.out yb xg xf with ⟨rfl,xp⟩ | ⟨rfl,yp,xr,yh,yk⟩
   ·exact S5 rfl yd xp
   ·have he:yu pc=H pc:=by rw [xr.1 pc (by rw [yr];exact hH),yr]
    exact Z9 yu zj yo rfl yd za yp (Ext.trans yt.out xr) ⟨by rw [he];exact xk.out,by rw [he,xh.out];exact xg,fun c hc=>by
     rw[xb.out] at hc;rcases List.mem_cons.1 hc with rfl | hc
     ·exact ⟨yh,by rw [he,xh.out];exact yk⟩
     ·obtain rfl:c=pc+1:=by simpa using hc
      exact⟨xy,by rw [he,xh.out,xr.1 _ (by rw [yv.out];exact yb)];exact yv.out⟩⟩
 by_cases hend:k=15\/k=27
 ·have xc:(B6 g f).next pc=[]:=by rw [yg.out];unfold D7;rw [if_pos R4]
  have xb:=(show Hid _ from xc);clear xc;rw[show dR k=3 by unfold dR;rw [if_neg h12,if_neg h13,if_pos hend]] at t2;clear h12 h13 hend;go_wp2_with fail;go_ret;exact Z9 H T tv rfl xt xq hinv (Ext.refl _ _ _) ⟨xk.out,by rw [xh.out];exact xg,fun c hc=>by rw [xb.out] at hc;cases hc⟩
 ·have xc:(B6 g f).next pc=[pc+1]:=by rw [yg.out];unfold D7;rw [if_neg R4,if_neg R4,if_neg R4]
  have xb:=(show Hid _ from xc);clear xc;rw[show dR k=0 by unfold dR;rw [if_neg h12,if_neg h13,if_neg hend]] at t2;clear h12 h13 hend;go_wp2_with fail;have xd:=cK g f wb hb base H T tv (pc+1) (H pc - q+r) W2 xq R4;rw[show ((pc+1:Nat):Int)=(pc:Int)+1 from by omega] at xd;refine xd.mono ?_;clear xd;rintro e w3 ⟨H',T',xx,ok,rfl,xs,xf,xe⟩;have xm:Below B w w3:=xt.trans (xe.below R4 (X0 xq hB1 hB2))
  go_wp2_with fail;go_ret;rcases eS hinv xa.out (c:=pc+1) (by rw [xb.out];simp) xh.out yb xg xf with ⟨rfl,xp⟩ | ⟨rfl,xz,xl,xy,xu⟩
  ·exact S5 rfl xm xp
  ·have he:H' pc=H pc:=xl.1 pc hH
   exact Z9 H' T' xx rfl xm xs xz xl ⟨by rw [he];exact xk.out,by rw [he,xh.out];exact xg,fun c hc=>by
    rw[xb.out] at hc;obtain rfl:c=pc+1:=by simpa using hc
    exact⟨xy,by rw [he,xh.out];exact xu⟩⟩
def lC (hb:Nat) (g:PgR) (f:FnR) (H:Nat->Int) (w:World) (e:Ending) (w':World):Prop :=
 ∃fr ok H',e=.returned (.tuple #[.bool fr,.bool ok])/\oG (B6 g f) H H' fr ok/\But (·=hb) w w'/\w'.rowIs hb 3 f.n (fun i=>.int .i64 (H' i))
theorem bP {hb:Nat} {g:PgR} {f:FnR} {H:Nat->Int} {w:World} {e:Ending} {w':World} (fr ok:Bool) (H':Nat->Int)
  (he:e=.returned (.tuple #[.bool fr,.bool ok])) (hs:oG (B6 g f) H H' fr ok) (hw:But (·=hb) w w') (hr:w'.rowIs hb 3 f.n (fun i=>.int .i64 (H' i))):lC hb g f H w e w':=⟨fr,ok,H',he,hs,hw,hr⟩
theorem yC (hb:Nat) (g:PgR) (f:FnR) (H:Nat->Int) (w:World) (hB:hb < w.heap.size) (hg:I7 hb w g) (hf:L1 hb w f) (hgood:uM g f)
  (hrow:w.rowIs hb 3 f.n (fun i=>.int .i64 (H i))) (hH:∀a,a < f.n -> -1<=H a/\H a<=10/\(0<=H a->(B6 g f).Reach a (H a))) :
  Calls prog 135 #[.agg #[.slice g.a g.n g.c],.agg #[.int .i64 f.p,.int .i64 f.l,.slice f.a f.n f.c],.slice (some ⟨hb,0,none⟩) f.n f.n] w fun e w' =>
   lC hb g f H w e w':=by
 have HH:=(show Hid _ from hH);clear hH;have zf:1<=f.n:=hgood.1;have yq:f.n<=60:=hgood.2.1;obtain⟨ha,zc,xp⟩:=hf.2 zf;have xz:=(show Hid _ from xp);clear xp;rw[ha];clear ha;go_enter func135,ntmps135;go_wp2
 generalize hqW1:((w.alloc (.cells #[.slice g.a g.n g.c] 41)).alloc (.cells #[.int .i64 f.p,.int .i64 f.l,.slice (some ⟨f.b,f.o,none⟩) f.n f.c] 163))=W1 at *
 have xe:But (·=hb) w W1:=by subst hqW1;exact ((But.refl _ _).alloc _).alloc _
 have xx:W1.rowIs hb 3 f.n (fun i=>.int .i64 (H i)):=by subst hqW1;exact (hrow.alloc _).alloc _
 have g0:W1.cell? ⟨w.heap.size,0,none⟩=some (.slice g.a g.n g.c):=by subst hqW1;go_simp
 have f0:W1.cell? ⟨w.heap.size+1,0,none⟩=some (.int .i64 f.p):=by subst hqW1;go_simp
 have f1:W1.cell? ⟨w.heap.size+1,1,none⟩=some (.int .i64 f.l):=by subst hqW1;go_simp
 have f2:W1.cell? ⟨w.heap.size+1,2,none⟩=some (.slice (some ⟨f.b,f.o,none⟩) f.n f.c):=by subst hqW1;go_simp
 have ze:W1.heap.size=w.heap.size+2:=by subst hqW1;simp
 clear hqW1;go_loopw [8,9] (fun v i wr=>∃(pc:Nat) (H':Nat->Int) (fr:Bool),pc<=f.n/\i=.int .i64 pc/\v=.bool fr/\But (·=hb) W1 wr/\wr.rowIs hb 3 f.n (fun i=>.int .i64 (H' i)) /\
   Sp (B6 g f) H H' (∀a,a < pc->0<=H a->(B6 g f).Shut H a) fr) (fun _ i _=>f.n - (intOf i).toNat)
 case atStart=>exact ⟨0,H,false,Nat.zero_le _,rfl,rfl,But.refl _ _,xx,HH.out,fun _ _=>rfl,Or.inl ⟨rfl,fun _=>rfl,fun a ha=>by omega⟩⟩
 case round =>
  obtain⟨pc,H',fr,zk,rfl,rfl,xd,xf,yb⟩:=hrel;have yy:w.heap.size+2<=wr.heap.size:=by have:=xd.size;omega
  have ym:w.heap.size < wr.heap.size:=by omega
  have yl:w.heap.size+1 < wr.heap.size:=by omega
  rw[<- xd.cell (by show w.heap.size < _;omega) (by show ¬w.heap.size=hb;omega)] at g0;rw[<- xd.cell (by show w.heap.size+1 < _;omega) (by show ¬w.heap.size+1=hb;omega)] at f0 f1 f2;by_cases hlt:pc < f.n
  ·have ya:=xf.cell hlt
   obtain⟨zn,zp,yn⟩:=yb.1 pc hlt;have yu:=(show Hid _ from yn);clear yn;by_cases hneg:H' pc < 0
   ·clear g0 f0 f1
    go_wp2
    go_roundw
    case rel=>exact ⟨pc+1,H',fr,by omega,by go_num,rfl,xd,xf,yb.imp fun he hq a ha hz=>by
      by_cases e:a=pc
      ·subst e;rw [he] at hneg;omega
      ·exact hq a R4 hz⟩
    case measure=>simp [intOf];omega
   ·have xh:Below hb w wr:=(xe.trans xd).below R4 (fun k hk=>by omega)
    obtain⟨co,ca⟩:=xz.out pc hlt;rw[<- xh.cell (p:=⟨f.b,_,none⟩) zc] at co ca;have zi:I7 hb wr g:=hg.below xh;have xu:=hgood.2.2.2 pc hlt;have xv:=(show Hid _ from xu);clear xu;have yr:f.b < wr.heap.size:=by omega
    have zm:hb < wr.heap.size:=by omega
    obtain⟨q,hq⟩:∃q,q=(B6 g f).pop pc:=⟨_,rfl⟩
    obtain⟨yv,yx⟩:=hgood.pop_bd hlt;rw[<- hq] at yv yx;obtain⟨r,hr⟩:∃r,r=(B6 g f).push pc:=⟨_,rfl⟩
    obtain⟨zd,zg⟩:=aH (f.op pc);rw[show M2 (f.op pc)=r from hr.symm] at zd zg;have HP:Hid (∀W,Below wr.heap.size wr W->Calls prog 169 #[.agg #[.slice g.a g.n g.c],.agg #[.int .i64 (f.op pc),.int .i64 (f.ar pc)]] W fun e w'=>e=.returned (.int .i64 q)/\Below W.heap.size W w'):=by
     intro W hW;rw[hq];exact a3b hb g (f.op pc) (f.ar pc) W (by have:=hW.size;omega) (zi.below (hW.mono R4)) (fun ho=>N1 xv.out ho)
    have HU:Hid (∀W,Calls prog 176 #[.int .i64 (f.op pc)] W fun e w'=>e=.returned (.int .i64 r)/\w'=W):=by
     intro W;rw[hr];exact xD _ W
    have HQ:=(show Hid _ from hq);clear hq;have HR:=(show Hid _ from hr);clear hr;go_wp2_with fail;refine (HP.out _ (by repeat (first | exact Below.refl _ _ | refine Below.setCell ?_ Q1 _ | refine Below.alloc ?_ Q1 _))).mono ?_;rintro e w2 ⟨rfl,xm⟩;have k0:w2.cell? ⟨hb,pc,none⟩=some (.int .i64 (H' pc)):=by rw [xm.cell Q8];go_simp
    have k1:w2.cell? ⟨wr.heap.size,0,none⟩=some (.int .i64 (f.op pc)):=by rw [xm.cell R5];go_simp
    have k2:w2.cell? ⟨wr.heap.size,1,none⟩=some (.int .i64 (f.ar pc)):=by rw [xm.cell R5];go_simp
    have k3:w2.cell? ⟨w.heap.size+1,2,none⟩=some (.slice (some ⟨f.b,f.o,none⟩) f.n f.c):=by rw [xm.cell Q8];go_simp
    have xk:But (·=hb) wr w2:=((But.refl _ wr).alloc _).trans (But.of_below xm);have xj:w2.rowIs hb 3 f.n (fun i=>.int .i64 (H' i)):=(xf.alloc _).of_block (xm.block hb Q8);have yp:wr.heap.size+1<=w2.heap.size:=by have:=xm.size;simpa using this
    clear xm g0 f0 f1 f2 co ca ya HP;go_wp2_with fail;go_quiet ((go_at_call 176;exact Calls.quiet_of_same (HU.out _)))
    have ys:0<=H' pc:=by omega
    have xl:=yu.out ys;have xb:=(show Hid _ from xl);clear xl;by_cases hb1:H' pc < q
    ·go_wp2_with fail
     go_ret2;exact bP fr false H' rfl (Or.inl ⟨rfl,G4.not_fits_pop xb.out (Or.inl (by rw [<- HQ.out];exact hb1))⟩) ((xe.trans xd).trans (xk.drewN _)) xj
    by_cases xm:10 < H' pc - q+r
    ·go_wp2_with fail
     go_ret2;exact bP fr false H' rfl (Or.inl ⟨rfl,G4.not_fits_pop xb.out (Or.inr (by unfold G4.behind;rw [<- HQ.out,<- HR.out];exact xm))⟩) ((xe.trans xd).trans (xk.drewN _)) xj
    go_wp2_with fail;refine (a2S pc (f.op pc) (f.ar pc) _ R4 (fun ho=>(V2 xv.out ho).1)).mono ?_;rintro e w4 ⟨v4,rfl,xo,xt⟩;have xg:But (·=hb) wr w4:=(xk.drewN nq).trans (But.of_below xt);have xq:w4.rowIs hb 3 f.n (fun i=>.int .i64 (H' i)):=xj.of_block (xt.block hb (by show hb < w2.heap.size;omega));have k4:w4.cell? ⟨w.heap.size+1,2,none⟩=some (.slice (some ⟨f.b,f.o,none⟩) f.n f.c):=by rw [xt.cell (by show w.heap.size+1 < w2.heap.size;omega)];exact k3
    have yz:w2.heap.size<=w4.heap.size:=xt.size;clear xt k0 k1 k2 k3;have xw:Hid ((B6 g f).behind pc (H' pc)=H' pc - q+r):=by show _=_;unfold G4.behind;rw [<- HQ.out,<- HR.out]
    generalize hbv:H' pc - q+r=bv at *
    have yf:0<=bv:=by omega
    have xi:bv<=10:=by omega
    clear hbv;have ye:(B6 g f).next pc=D7 pc (f.op pc) (f.ar pc):=rfl;generalize D7 pc (f.op pc) (f.ar pc)=L at xo ye;have yc:=(show Hid _ from ye);clear ye;rcases xo with ⟨rfl,rfl⟩ | ⟨lb,rfl,yg,yh,yo⟩
    ·go_wp2_with fail
     go_loop [8,14] (fun v i=>v=.bool fr/\i=.int .i64 0) (fun _ _=>0)
     case atStart=>exact ⟨rfl,rfl⟩
     case round =>
      obtain⟨rfl,rfl⟩:=hrel;go_wp2
      go_roundw
      case rel=>exact ⟨pc+1,H',fr,by omega,by go_num,rfl,xd.trans xg,xq,yb.imp fun he hq a ha hz=>by
       by_cases e:a=pc
       ·subst e
        exact⟨by rw [<- he,<- HQ.out];omega,by rw [<- he,xw.out];exact xi,fun c hc=>by rw [yc.out] at hc;cases hc⟩
       ·exact hq a R4 hz⟩
      case measure=>simp [intOf];omega
    ·have zh:=(show Hid _ from yo);clear yo
     have zl:L.length<=2:=by rw [<- yc.out];show (D7 pc (f.op pc) (f.ar pc)).length<=2;unfold D7;repeat' split
                             all_goals simp
     go_wp2_with fail;go_loopw [8,14] (fun v vi wx=>∃(i:Nat) (H2:Nat->Int) (xs:Bool),i<=L.length/\vi=.int .i64 i/\v=.bool xs/\But (·=hb) w4 wx/\wx.rowIs hb 3 f.n (fun i=>.int .i64 (H2 i)) /\
       Sp (B6 g f) H H2 ((∀a,a < pc->0<=H a->(B6 g f).Shut H a)/\H' pc=H pc/\∀j,j < i->L.getD j 0 < f.n/\H (L.getD j 0)=bv) xs) (fun _ vi _=>L.length - (intOf vi).toNat)
     case atStart=>exact ⟨0,H',fr,Nat.zero_le _,rfl,rfl,But.refl _ _,xq,yb.imp fun he hq=>⟨hq,he pc,fun j hj=>by omega⟩⟩
     case round =>
      obtain⟨i,H2,xs,hi,rfl,rfl,xa,xc,xn⟩:=hrel;have zb:=xa.size;have xy:¬lb=hb:=by have:w2.heap.size<=lb:=yg;omega
      have kx:wr.cell? ⟨w.heap.size+1,2,none⟩=some (.slice (some ⟨f.b,f.o,none⟩) f.n f.c):=by rw [xa.cell (by show w.heap.size+1 < w4.heap.size;omega) (by show ¬w.heap.size+1=hb;omega)];exact k4
      have xr:But (·=hb) w wr:=((xe.trans xd).trans xg).trans xa;by_cases hil:i < L.length
      ·obtain ⟨c,hc⟩:∃c,c=L.getD i 0:=⟨_,rfl⟩
       have yk:c∈(B6 g f).next pc:=by rw [yc.out,hc,List.getD_eq_getElem?_getD,L1b hil];exact List.getElem_mem hil
       have yd:=(show Hid _ from yk);clear yk;have kc:wr.cell? ⟨lb,i,none⟩=some (.int .i64 (c:Nat)):=by rw [xa.cell yh xy,zh.out i hil,hc]
       have HC:=(show Hid _ from hc);clear hc;have za:lb < wr.heap.size:=by omega
       have yi:(B6 g f).Reach c bv:=by rw [<- xw.out];exact G4.reach_next xb.out yd.out
       have yw:=(show Hid _ from yi);clear yi;by_cases hcn:c < f.n
       ·have kh:=xc.cell hcn
        have kf:=xc.frozen c;obtain⟨zj,zo,yj⟩:=xn.1 c hcn;have yt:=(show Hid _ from yj);clear yj;by_cases hcneg:H2 c < 0
        ·go_wp2_with fail
         go_quiet (fail)
         go_wp2_with fail;go_roundw
         case rel=>exact ⟨i+1,fun j=>if j=c then bv else H2 j,true,by omega,by go_num,rfl,((xa.drewN _).setCell (p:=⟨hb,c,none⟩) (Or.inl rfl) (.int .i64 bv)),(xc.set c (.int .i64 bv)).congr (fun j _=>by by_cases e:j=c <;> simp [e]),xn.set hcn hcneg yf xi yw.out⟩
         case measure=>simp [intOf];omega
        by_cases hceq:(H2 c != bv)=true
        ·go_wp2_with fail
         go_quiet (fail)
         go_wp2_with fail;go_ret2;exact bP xs false H2 rfl (Or.inl ⟨rfl,G4.not_fits_two xb.out yd.out (yt.out R4) (by rw [xw.out];simpa using hceq)⟩) (xr.drewN _) xc
        ·go_wp2_with fail
         go_quiet (fail)
         go_wp2_with fail;go_roundw
         case rel=>exact ⟨i+1,H2,xs,by omega,by go_num,rfl,xa.drewN _,xc,xn.imp fun he ⟨q1,q2,q3⟩=>⟨q1,q2,fun j hj=>by
          by_cases e:j=i
          ·subst e;rw [<- HC.out];exact ⟨hcn,by rw [<- he];simpa using hceq⟩
          ·exact q3 j R4⟩⟩
         case measure=>simp [intOf];omega
       ·go_wp2_with fail
        go_quiet (fail)
        go_wp2_with fail;go_ret2;exact bP xs false H2 rfl (Or.inl ⟨rfl,G4.not_fits_past xb.out yd.out (by show f.n<=c;omega)⟩) (xr.drewN _) xc
      ·go_wp2_with fail
       go_roundw
       case rel=>exact ⟨pc+1,H2,xs,by omega,by go_num,rfl,(xd.trans xg).trans xa,xc,xn.imp fun he ⟨q1,q2,q3⟩ a ha hz=>by
        by_cases e:a=pc
        ·subst e
         refine⟨by rw [<- q2,<- HQ.out];omega,by rw [<- q2,xw.out];exact xi,fun c hc=>?_⟩;rw[yc.out] at hc;obtain⟨j,hj,rfl⟩:=List.getElem_of_mem hc;have:=q3 j R4;rw[List.getD_eq_getElem?_getD,L1b hj] at this;exact⟨this.1,by rw [<- q2,xw.out];exact this.2⟩
        ·exact q1 a R4 hz⟩
       case measure=>simp [intOf];omega
  ·clear g0 f0 f1
   go_wp2
   go_ret2;exact bP fr true H' rfl (Or.inr ⟨rfl,yb.imp fun _ hq a ha hz=>hq a (by have:a < f.n:=ha;omega) hz⟩) (xe.trans xd) xf
theorem iH:(prog.info? 3).map (fun i=>(i.zero,i.size,i.bytes))=some (some (.int .i64 0),1,8):=by kernel_rfl
def O5 (g:PgR) (f:FnR) (w:World) (e:Ending) (w':World):Prop :=
 ∃v ok,e=.returned (.tuple #[v,.bool ok])/\(ok=true↔(B6 g f).Fits)/\Below w.heap.size w w'
theorem W6 {g:PgR} {f:FnR} {w:World} {e:Ending} {w':World} (v:Value) (ok:Bool) (he:e=.returned (.tuple #[v,.bool ok])) (hs:ok=true↔(B6 g f).Fits) (hw:Below w.heap.size w w'):O5 g f w e w':=⟨v,ok,he,hs,hw⟩
theorem sW (B:Nat) (g:PgR) (f:FnR) (w:World) (hB:B<=w.heap.size) (hg:I7 B w g) (hf:L1 B w f) (hgood:uM g f) :
  Calls prog 98 #[.agg #[.slice g.a g.n g.c],.agg #[.int .i64 f.p,.int .i64 f.l,.slice f.a f.n f.c]] w fun e w'=>O5 g f w e w':=by
 have yc:1<=f.n:=hgood.1;have ye:f.n<=60:=hgood.2.1;have yg:=Go.run_make_row' (P:=prog) 24 3 (.int .i64 0) 8 underlying24 iH rfl .i64 .i64 f.n R4 R4;go_enter func98,ntmps98;go_wp2
 generalize hqW1:(((w.alloc (Obj.cells #[.slice g.a g.n g.c] 41)).alloc (Obj.cells #[.int .i64 f.p,.int .i64 f.l,.slice f.a f.n f.c] 163)).alloc (Obj.cells (madeCells #[Value.int IntKind.i64 0] f.n) 3))=W1 at *
 have xd:Below w.heap.size w W1:=by subst hqW1;repeat (first | exact Below.refl _ _ | refine Below.alloc ?_ Q1 _)
 have xe:W1.rowIs (w.heap.size+1+1) 3 f.n (fun _=>.int .i64 0):=by
  subst hqW1;have:=World.rowIs_made ((w.alloc (Obj.cells #[.slice g.a g.n g.c] 41)).alloc (Obj.cells #[.int .i64 f.p,.int .i64 f.l,.slice f.a f.n f.c] 163)) (.int .i64 0) f.n 3;simpa using this
 have g0:W1.cell? ⟨w.heap.size,0,none⟩=some (.slice g.a g.n g.c):=by subst hqW1;go_simp
 have f0:W1.cell? ⟨w.heap.size+1,0,none⟩=some (.int .i64 f.p):=by subst hqW1;go_simp
 have f1:W1.cell? ⟨w.heap.size+1,1,none⟩=some (.int .i64 f.l):=by subst hqW1;go_simp
 have f2:W1.cell? ⟨w.heap.size+1,2,none⟩=some (.slice f.a f.n f.c):=by subst hqW1;go_simp
 have ym:W1.heap.size=w.heap.size+3:=by subst hqW1;simp
 clear hqW1;obtain⟨hb,xq⟩:∃hb,hb=w.heap.size+1+1:=⟨_,rfl⟩
 rw[<- xq] at xe ⊢;have xv:=(show Hid _ from xq);clear xq;have yk:hb<=w.heap.size+2:=by have:=xv.out;omega
 have xz:w.heap.size+2<=hb:=by have:=xv.out;omega
 clear yg;go_loopw [7] (fun v wr=>∃i:Nat,1<=i/\i<=f.n/\v=.int .i64 i/\But (·=hb) W1 wr/\wr.rowIs hb 3 f.n (fun j=>.int .i64 (if 1<=j/\j < i then -1 else 0))) (fun v _=>f.n - (intOf v).toNat)
 case atStart=>exact ⟨1,L1c _,yc,rfl,But.refl _ _,xe.congr (fun j _=>by rw [if_neg R4])⟩
 case round =>
  obtain⟨i,yo,yr,rfl,xi,xb⟩:=hrel;by_cases hlt:i < f.n
  ·have kh:=xb.cell hlt
   have kf:=xb.frozen i;go_wp2
   go_roundw
   case rel=>exact ⟨i+1,by omega,by omega,by go_num,xi.setCell (Or.inl rfl) _,(xb.set i (.int .i64 (-1))).congr (fun j _=>by
    by_cases e:j=i
    ·subst e;rw [if_pos rfl,if_pos R4]
    ·rw [if_neg e]
     by_cases h1:1<=j/\j < i
     ·rw [if_pos h1,if_pos R4]
     ·rw [if_neg h1,if_neg R4])⟩
   case measure=>simp [intOf];omega
  ·go_wp2
   have xy:Hid (∀j,(fun j:Nat=>if 1<=j/\j < i then (-1:Int) else 0) j=if 1<=j/\j < i then (-1:Int) else 0):=fun _=>rfl
   have xg:(B6 g f).n=f.n:=rfl;have yn:=(show Hid _ from xg);clear xg;have xc:(∀a,a < f.n -> -1<=(if 1<=a/\a < i then (-1:Int) else 0)/\(if 1<=a/\a < i then (-1:Int) else 0)<=10/\(0<=(if 1<=a/\a < i then (-1:Int) else 0)->(B6 g f).Reach a (if 1<=a/\a < i then (-1:Int) else 0))):=by
    intro a ha;by_cases h1:1<=a/\a < i
    ·rw [if_pos h1];exact ⟨by omega,by omega,fun h=>by omega⟩
    ·rw [if_neg h1];refine ⟨by omega,by omega,fun _=>?_⟩
     obtain rfl:a=0:=by omega
     exact (B6 g f).reach_first
   have xu:=(show Hid _ from xc);clear xc;generalize hH0:(fun j:Nat=>if 1<=j/\j < i then (-1:Int) else 0)=H0 at *
   have e0:∀j,H0 j=if 1<=j/\j < i then (-1:Int) else 0:=fun j=>by rw [<- hH0]
   have xj:wr.rowIs hb 3 f.n (fun j=>.int .i64 (H0 j)):=xb.congr fun j _=>by rw [e0]
   have xw:∀a,a < f.n -> -1<=H0 a/\H0 a<=10/\(0<=H0 a->(B6 g f).Reach a (H0 a)):=fun a ha=>by rw [e0];exact xu.out a ha
   have xs:H0 0=0:=by rw [e0,if_neg R4]
   have xp:=(show Hid _ from xw);have yh:=(show Hid _ from xs);clear xw xs e0 hH0 xu xy xb;go_loopg [8] (left f.n H0) (fun k _ wx=>∃H:Nat->Int,left f.n H<=k/\But (·=hb) W1 wx/\wx.rowIs hb 3 f.n (fun j=>.int .i64 (H j))/\H 0=0/\∀a,a < f.n -> -1<=H a/\H a<=10/\(0<=H a->(B6 g f).Reach a (H a)))
   case atStart=>exact ⟨H0,L1c _,xi,xj,yh.out,xp.out⟩
   case round =>
    obtain⟨H,hk,xa,xk,xt,xx⟩:=hrel;have xn:=(show Hid _ from xt);clear xt;have yi:=(show Hid _ from xx);clear xx;have yf:=xa.size;have yp:w.heap.size < wr.heap.size:=by omega
    have yq:w.heap.size+1 < wr.heap.size:=by omega
    have kg:wr.cell? ⟨w.heap.size,0,none⟩=some (.slice g.a g.n g.c):=by rw [xa.cell (by show w.heap.size < _;omega) (by show ¬w.heap.size=hb;omega)];exact g0
    have k0:wr.cell? ⟨w.heap.size+1,0,none⟩=some (.int .i64 f.p):=by rw [xa.cell (by show w.heap.size+1 < _;omega) (by show ¬w.heap.size+1=hb;omega)];exact f0
    have k1:wr.cell? ⟨w.heap.size+1,1,none⟩=some (.int .i64 f.l):=by rw [xa.cell (by show w.heap.size+1 < _;omega) (by show ¬w.heap.size+1=hb;omega)];exact f1
    have k2:wr.cell? ⟨w.heap.size+1,2,none⟩=some (.slice f.a f.n f.c):=by rw [xa.cell (by show w.heap.size+1 < _;omega) (by show ¬w.heap.size+1=hb;omega)];exact f2
    have xh:Below w.heap.size w wr:=xd.trans (xa.below R4 (fun k hk=>by omega));have yj:I7 hb wr g:=((hg.mono hB).below xh).mono R4;have yd:L1 hb wr f:=((hf.mono hB).below xh).mono R4;clear g0 f0 f1 f2;go_wp2_with fail;refine (yC hb g f H wr R4 yj yd hgood xk yi.out).mono ?_;rintro e w2 ⟨fr,ok,H',rfl,xr,xf,xl⟩;have xm:Below w.heap.size w w2:=xh.trans (xf.below R4 (fun k hk=>by omega))
    rcases xr with ⟨rfl,xo⟩ | ⟨rfl,yl⟩
    ·go_wp2_with fail
     go_ret2;exact W6 _ false rfl ⟨fun h=>(by cases h),fun h=>absurd h xo⟩ xm
    ·rcases yl with ⟨hs1',hs2',⟨rfl,hse,hsh⟩ | ⟨rfl,hsl⟩⟩
     ·go_wp2_with fail
      go_ret2;exact W6 _ true rfl ⟨fun _=>G4.fits_of_shut (H:=H) (by show 0 < f.n;omega) xn.out (fun a=>(aH _).1) hsh,fun _=>rfl⟩ xm
     ·have yb:=(show Hid _ from hs1');have ya:=(show Hid _ from hs2');clear hs1' hs2'
      go_wp2_with fail;go_roundg (left f.n H')
      case measure=>exact L0a hsl hk
      case rel=>exact ⟨H',L1c _,xa.trans xf,xl,by rw [ya.out 0 (by rw [xn.out];omega)];exact xn.out,yb.out⟩
theorem G4.Shut.ext {F:G4} {H H':Nat->Int} {a:Nat} (h:F.Shut H a) (hp:0<=F.push a) (ha:0<=H a) (hx:∀a,0<=H a->H' a=H a):F.Shut H' a:=by
 obtain⟨h1,h2,h3⟩:=h;have he:=hx a ha;refine⟨by rw [he];exact h1,by rw [he];exact h2,fun c hc=>?_⟩;obtain⟨h4,h5⟩:=h3 c hc;refine⟨h4,?_⟩;rw[he,hx c (by rw [h5];unfold G4.behind;omega),h5]
def oF (g:PgR) (f:FnR) (wb hb base:Nat) (w:World) (k:Nat) (ok:Bool):Prop :=
 (ok=false/\¬(B6 g f).Fits)\/(ok=true/\∃H T tv,L9 w g f wb hb base H T tv/\Inv (B6 g f) H T/\T.length+left f.n H<=k/\k<=f.n/\H 0=0/\∀a,a < f.n->0<=H a->a∈T\/(B6 g f).Shut H a)
theorem nO (B:Nat) (g:PgR) (f:FnR) (w:World) (hB0:0 < B) (hB:B<=w.heap.size) (hg:I7 B w g) (hf:L1 B w f) (hgood:uM g f) (ht:Tab w) :
  Calls prog 175 #[.agg #[.slice g.a g.n g.c],.agg #[.int .i64 f.p,.int .i64 f.l,.slice f.a f.n f.c]] w fun e w'=>O5 g f w e w':=by
 have zg:1<=f.n:=hgood.1;have zi:f.n<=60:=hgood.2.1;have zf:=Go.run_make_row' (P:=prog) 24 3 (.int .i64 0) 8 underlying24 iH rfl .i64 .i64 f.n R4 R4;go_enter func175,ntmps175;go_wp2
 go_region
 ·have xi:(((((w.alloc (Obj.cells #[.slice g.a g.n g.c] 41)).alloc (Obj.cells #[.int .i64 f.p,.int .i64 f.l,.slice f.a f.n f.c] 163)).alloc (Obj.cells (madeCells #[Value.int IntKind.i64 0] f.n) 3)).alloc (Obj.cells #[.slice g.a g.n g.c,.slice f.a f.n f.c,.slice (some { block:=(w.heap.size+1+1),off:=0 }) f.n f.n,.slice none 0 0] 249)).drew).rowIs (w.heap.size+1+1) 3 f.n (fun _=>.int .i64 0):=by
   have:=((World.rowIs_made ((w.alloc (Obj.cells #[.slice g.a g.n g.c] 41)).alloc (Obj.cells #[.int .i64 f.p,.int .i64 f.l,.slice f.a f.n f.c] 163)) (.int .i64 0) f.n 3).alloc (Obj.cells #[.slice g.a g.n g.c,.slice f.a f.n f.c,.slice (some { block:=(w.heap.size+1+1),off:=0 }) f.n f.n,.slice none 0 0] 249)).drew;simpa using this
  generalize hqW1:(((((w.alloc (Obj.cells #[.slice g.a g.n g.c] 41)).alloc (Obj.cells #[.int .i64 f.p,.int .i64 f.l,.slice f.a f.n f.c] 163)).alloc (Obj.cells (madeCells #[Value.int IntKind.i64 0] f.n) 3)).alloc (Obj.cells #[.slice g.a g.n g.c,.slice f.a f.n f.c,.slice (some { block:=(w.heap.size+1+1),off:=0 }) f.n f.n,.slice none 0 0] 249)).drew)=W1 at *
  have d0:W1.cell? ⟨(w.heap.size+1+1+1),0,none⟩=some (.slice g.a g.n g.c):=by subst hqW1;go_simp
  have d1:W1.cell? ⟨(w.heap.size+1+1+1),1,none⟩=some (.slice f.a f.n f.c):=by subst hqW1;go_simp
  have d2:W1.cell? ⟨(w.heap.size+1+1+1),2,none⟩=some (.slice (some ⟨(w.heap.size+1+1),0,none⟩) f.n f.n):=by subst hqW1;go_simp
  have d3:W1.cell? ⟨(w.heap.size+1+1+1),3,none⟩=some (.slice none 0 0):=by subst hqW1;go_simp
  have dz:W1.frozen? ⟨(w.heap.size+1+1+1),3,none⟩=false:=by subst hqW1;go_simp
  have zl:W1.heap.size=w.heap.size+4:=by subst hqW1;simp
  have xb:Below w.heap.size w W1:=by subst hqW1;repeat (first | exact Below.refl _ _ | refine Below.drew ?_ | refine Below.alloc ?_ Q1 _)
  clear hqW1;obtain⟨wb,yd⟩:∃wb,wb=(w.heap.size+1+1+1):=⟨_,rfl⟩
  obtain⟨hb,yi⟩:∃hb,hb=(w.heap.size+1+1):=⟨_,rfl⟩
  have xh:L9 W1 g f wb hb (w.heap.size+4) (fun _=>0) [] (.slice none 0 0):=by
   rw[yd,yi];exact⟨by omega,by omega,by omega,by omega,d0,d1,d2,d3,dz,xi,World.ownsRow_nil _ _ _ _⟩
  rw[<- yd,<- yi];have yk:w.heap.size<=wb:=by omega
  have yh:w.heap.size<=hb:=by omega
  clear xi d0 d1 d2 d3 dz yd yi zf;have d2:=xh.c2;go_wp2
  clear d2;go_loopw [22] (fun v wr=>∃i:Nat,i<=f.n/\v=.int .i64 i/\L9 wr g f wb hb (w.heap.size+4) (fun j=>if j < i then -1 else 0) [] (.slice none 0 0)/\Below w.heap.size w wr) (fun v _=>f.n - (intOf v).toNat)
  case atStart=>exact ⟨0,Nat.zero_le _,rfl,xh,xb⟩
  case round =>
   obtain⟨i,hi,rfl,xa,xp⟩:=hrel;have zn:=xa.size;by_cases hlt:i < f.n
   ·have d2:=xa.c2
    have kh:=xa.row.cell hlt;have kf:=xa.row.frozen i;have ze:=xa.ne;go_wp2
    go_roundw
    case rel =>
     go_light
     refine⟨i+1,by omega,by go_num,⟨xa.ne,xa.ltw,xa.lth,by simpa using xa.size,?_,?_,?_,?_,?_,(xa.row.set i (.int .i64 (-1))).congr (fun j _=>?_),World.ownsRow_nil _ _ _ _⟩,xp.setCell yh _⟩
     ·have:=xa.c0;go_simp
     ·have:=xa.c1;go_simp
     ·go_simp
     ·have:=xa.c3;go_simp
     ·have:=xa.fz;go_simp
     ·by_cases e:j=i
      ·subst e;rw [if_pos rfl,if_pos R4]
      ·rw [if_neg e]
       by_cases h1:j < i
       ·rw [if_pos h1,if_pos R4]
       ·rw [if_neg h1,if_neg R4]
    case measure=>simp [intOf];omega
   ·have hH:∀j,j < f.n->(if j < i then (-1:Int) else 0) = -1:=fun j hj=>by rw [if_pos R4]
    have xo:L9 wr g f wb hb (w.heap.size+4) (fun _ => -1) [] (.slice none 0 0) :=
     ⟨xa.ne,xa.ltw,xa.lth,xa.size,xa.c0,xa.c1,xa.c2,xa.c3,xa.fz,xa.row.congr (fun j hj=>by rw [hH j hj]),xa.own⟩
    clear xa hH;go_wp2_with fail;have xf:=cK g f wb hb (w.heap.size+4) (fun _ => -1) [] (.slice none 0 0) 0 0 wr xo R5;rw[show ((0:Nat):Int)=0 from rfl] at xf;refine xf.mono ?_;clear xf;rintro e w2 ⟨H,T,tv,ok,rfl,yn,xv,xm⟩;have xz:Below w.heap.size w w2:=xp.trans (xm.below R4 (X0 xo yk yh));obtain⟨rfl,rfl,rfl⟩:ok=true/\H=(fun i=>if i=0 then 0 else -1)/\T=[0]:=by
     rcases xv with ⟨_,h⟩ | ⟨_,_,h,_⟩ | ⟨_,_,h,_⟩ | ⟨h1,_,_,h2,h3⟩
     ·omega
     ·exact absurd rfl h
     ·exact absurd rfl h
     ·exact ⟨h1,h2,h3⟩
    have yq:oF g f wb hb (w.heap.size+4) w2 f.n true:=by
     refine Or.inr ⟨rfl,_,_,tv,yn,⟨fun a ha=>?_,fun t htm=>?_⟩,?_,L1c _,by simp,fun a ha hz=>?_⟩
     ·by_cases e:a=0
      ·subst e;simp only [if_pos];exact ⟨by omega,by omega,fun _=>(B6 g f).reach_first⟩
      ·simp only [if_neg e];exact ⟨by omega,by omega,fun h=>by omega⟩
     ·obtain rfl:t=0:=by simpa using htm
      exact⟨zg,by simp⟩
     ·have h1:=iK (n:=f.n) (H:=fun _ => -1) (c:=0) (v:=0) R4 R5 R4
      have h2:left f.n (fun _ => -1)<=f.n:=by unfold left;exact Nat.le_trans (List.length_filter_le _ _) R5
      simp only[List.length_cons,List.length_nil];omega
     ·by_cases e:a=0
      ·subst e;exact Or.inl R5
      ·simp only [if_neg e] at hz;omega
    clear xv yn xm xo xp xh xb;go_wp2_with fail;go_loopg [8] f.n (fun k v wx=>∃ok:Bool,v=.bool ok/\oF g f wb hb (w.heap.size+4) wx k ok/\Below w.heap.size w wx)
    case atStart=>exact ⟨true,rfl,yq,xz⟩
    case round =>
     obtain⟨ok,rfl,xq,xg⟩:=hrel;rcases xq with ⟨rfl,yc⟩ | ⟨rfl,H,T,tv,xc,xr,yg,zk,yp,yl⟩
     ·go_wp2_with fail
      go_ret2;exact W6 _ false rfl ⟨fun h=>(by cases h),fun h=>absurd h yc⟩ xg
     ·have ye:=(show Hid _ from yp);clear yp
      have yo:=(show Hid _ from yl);clear yl;have d2:=xc.c2;have d3:=xc.c3;have fz:=xc.fz;have yt:wb < wr.heap.size:=L0a xc.ltw xc.size;have xl:T=[]->O5 g f w (.returned (.tuple #[.slice (some ⟨hb,0,none⟩) f.n f.n,.bool true])) wr:=fun hTe =>
       W6 _ true rfl ⟨fun _=>G4.fits_of_shut (H:=H) (by show 0 < f.n;omega) ye.out (fun a=>(aH _).1) (fun a ha hz=>(yo.out a ha hz).elim (fun h=>by rw [hTe] at h;cases h) id),fun _=>rfl⟩ xg
      have xn:=(show Hid _ from xl);clear xl;rcases xc.own.2 with ⟨hv,h0⟩ | ⟨gb,ya,zc,hv,zj,xx,xy,za,zd,xw⟩
      ·obtain rfl:T=[]:=List.length_eq_zero_iff.1 h0
       rw[hv] at d3;clear hv h0;go_wp2_with fail;go_ret2;exact xn.out R5
      ·clear zc xx zd xw
       rcases List.eq_nil_or_concat T with rfl | ⟨T0,t,rfl⟩
       ·rw [hv] at d3
        simp only[List.length_nil] at d3;clear hv;go_wp2_with fail;go_ret2;exact xn.out R5
       ·have yf:(T0.concat t).length=T0.length+1:=by simp
        rw[yf] at hv yg xy;have xd:=xc.own;rw[hv,yf] at xd;have zh:wr.cell? ⟨gb,T0.length,none⟩=some (.int .i64 (t:Int)):=by
         have:=xd.cells (g:=gb) rfl T0.length (.int .i64 (t:Int)) (by simp [mE]);rw[Go.WideShapes.add_plain,Nat.zero_add] at this;exact this
        have xk:wr.ownsRow (w.heap.size+4) 3 1 (.slice (some ⟨gb,0,none⟩) T0.length ya) T0.length (mE T0):=ownsRow_pop (last:=[.int .i64 (t:Int)]) (by simp [mE]) (by simpa [mE] using xd);rw[hv] at d3;have yx:gb < wr.heap.size:=(xd.lt gb rfl).2;have yj:T0.length<=59:=by omega
        obtain⟨yv,yz⟩:=xr.2 t R5;have ym:L9 (wr.setCell ⟨wb,3,none⟩ (.slice (some ⟨gb,0,none⟩) T0.length ya)) g f wb hb (w.heap.size+4) H T0 (.slice (some ⟨gb,0,none⟩) T0.length ya):=by
         have zm:=xc.ne;refine⟨xc.ne,xc.ltw,xc.lth,by simpa using xc.size,?_,?_,?_,?_,?_,xc.row.setOther (by exact xc.ne.symm) _,ownsRow_setCell_below xk (a:=⟨wb,3,none⟩) xc.ltw _⟩
         ·have:=xc.c0;go_light;go_simp
         ·have:=xc.c1;go_light;go_simp
         ·go_light;go_simp
         ·go_light;go_simp
         ·go_light;go_simp
        have xb:Below w.heap.size w (wr.setCell ⟨wb,3,none⟩ (.slice (some ⟨gb,0,none⟩) T0.length ya)):=xg.setCell yk _;have xs:Inv (B6 g f) H T0:=⟨xr.1,fun x hx=>xr.2 x (by simp [hx])⟩;have xe:=oP w.heap.size g f wb hb (w.heap.size+4) H T0 _ t _ ym R4 yk yh ((hg.mono hB).below xb) ((hf.mono hB).below xb) hgood (ht.below hB0 (xb.mono hB)) yj yv xs yz
        have yy:=(show Hid _ from xe);clear xe;clear hv yf xd xk ym;go_wp2_with fail;refine Calls.mono yy.out ?_;rintro e w3 ⟨ok,H',T',ys,rfl,yr,xj⟩;have xu:Below w.heap.size w w3:=xb.trans yr;have yb:oF g f wb hb (w.heap.size+4) w3 (gk - 1) ok:=by
         rcases xj with ⟨rfl,yc⟩ | ⟨rfl,yw,yu,xt,zb⟩
         ·exact Or.inl ⟨rfl,yc⟩
         ·refine Or.inr ⟨rfl,H',T',ys,yw,yu,by have:=xt.2.2.2;omega,by omega,by rw [xt.1 0 (by rw [ye.out];omega)];exact ye.out,fun a ha hz=>?_⟩
          rcases xt.2.2.1 a ha hz with hz0 | hm
          ·rcases yo.out a ha hz0 with hm | hm
           ·by_cases e:a=t
            ·subst e;exact Or.inr zb
            ·exact Or.inl (xt.2.1 a (by simpa [e] using hm))
           ·exact Or.inr (hm.ext (aH _).1 hz0 xt.1)
          ·exact Or.inl hm
        clear xj;go_wp2_with fail;go_roundg (gk - 1)
        case measure=>go_light;omega
        case rel=>exact ⟨ok,rfl,yb,xu⟩
 ·have xi:(((((w.alloc (Obj.cells #[.slice g.a g.n g.c] 41)).alloc (Obj.cells #[.int .i64 f.p,.int .i64 f.l,.slice f.a f.n f.c] 163)).alloc (Obj.cells #[.slice g.a g.n g.c,.slice f.a f.n f.c,.slice (some { block:=(w.heap.size+1+1+1),off:=0 }) f.n f.n,.slice none 0 0] 249)).alloc (Obj.cells (madeCells #[Value.int IntKind.i64 0] f.n) 3)).drew).rowIs (w.heap.size+1+1+1) 3 f.n (fun _=>.int .i64 0):=by
   have:=(World.rowIs_made (((w.alloc (Obj.cells #[.slice g.a g.n g.c] 41)).alloc (Obj.cells #[.int .i64 f.p,.int .i64 f.l,.slice f.a f.n f.c] 163)).alloc (Obj.cells #[.slice g.a g.n g.c,.slice f.a f.n f.c,.slice (some { block:=(w.heap.size+1+1+1),off:=0 }) f.n f.n,.slice none 0 0] 249)) (.int .i64 0) f.n 3).drew;simpa using this
  generalize hqW1:(((((w.alloc (Obj.cells #[.slice g.a g.n g.c] 41)).alloc (Obj.cells #[.int .i64 f.p,.int .i64 f.l,.slice f.a f.n f.c] 163)).alloc (Obj.cells #[.slice g.a g.n g.c,.slice f.a f.n f.c,.slice (some { block:=(w.heap.size+1+1+1),off:=0 }) f.n f.n,.slice none 0 0] 249)).alloc (Obj.cells (madeCells #[Value.int IntKind.i64 0] f.n) 3)).drew)=W1 at *
  have d0:W1.cell? ⟨(w.heap.size+1+1),0,none⟩=some (.slice g.a g.n g.c):=by subst hqW1;go_simp
  have d1:W1.cell? ⟨(w.heap.size+1+1),1,none⟩=some (.slice f.a f.n f.c):=by subst hqW1;go_simp
  have d2:W1.cell? ⟨(w.heap.size+1+1),2,none⟩=some (.slice (some ⟨(w.heap.size+1+1+1),0,none⟩) f.n f.n):=by subst hqW1;go_simp
  have d3:W1.cell? ⟨(w.heap.size+1+1),3,none⟩=some (.slice none 0 0):=by subst hqW1;go_simp
  have dz:W1.frozen? ⟨(w.heap.size+1+1),3,none⟩=false:=by subst hqW1;go_simp
  have zl:W1.heap.size=w.heap.size+4:=by subst hqW1;simp
  have xb:Below w.heap.size w W1:=by subst hqW1;repeat (first | exact Below.refl _ _ | refine Below.drew ?_ | refine Below.alloc ?_ Q1 _)
  clear hqW1;obtain⟨wb,yd⟩:∃wb,wb=(w.heap.size+1+1):=⟨_,rfl⟩
  obtain⟨hb,yi⟩:∃hb,hb=(w.heap.size+1+1+1):=⟨_,rfl⟩
  have xh:L9 W1 g f wb hb (w.heap.size+4) (fun _=>0) [] (.slice none 0 0):=by
   rw[yd,yi];exact⟨by omega,by omega,by omega,by omega,d0,d1,d2,d3,dz,xi,World.ownsRow_nil _ _ _ _⟩
  rw[<- yi,<- yd];have yk:w.heap.size<=wb:=by omega
  have yh:w.heap.size<=hb:=by omega
  clear xi d0 d1 d2 d3 dz yd yi zf;have d2:=xh.c2;go_wp2
  clear d2;go_loopw [22] (fun v wr=>∃i:Nat,i<=f.n/\v=.int .i64 i/\L9 wr g f wb hb (w.heap.size+4) (fun j=>if j < i then -1 else 0) [] (.slice none 0 0)/\Below w.heap.size w wr) (fun v _=>f.n - (intOf v).toNat)
  case atStart=>exact ⟨0,Nat.zero_le _,rfl,xh,xb⟩
  case round =>
   obtain⟨i,hi,rfl,xa,xp⟩:=hrel;have zn:=xa.size;by_cases hlt:i < f.n
   ·have d2:=xa.c2
    have kh:=xa.row.cell hlt;have kf:=xa.row.frozen i;have ze:=xa.ne;go_wp2
    go_roundw
    case rel =>
     go_light
     refine⟨i+1,by omega,by go_num,⟨xa.ne,xa.ltw,xa.lth,by simpa using xa.size,?_,?_,?_,?_,?_,(xa.row.set i (.int .i64 (-1))).congr (fun j _=>?_),World.ownsRow_nil _ _ _ _⟩,xp.setCell yh _⟩
     ·have:=xa.c0;go_simp
     ·have:=xa.c1;go_simp
     ·go_simp
     ·have:=xa.c3;go_simp
     ·have:=xa.fz;go_simp
     ·by_cases e:j=i
      ·subst e;rw [if_pos rfl,if_pos R4]
      ·rw [if_neg e]
       by_cases h1:j < i
       ·rw [if_pos h1,if_pos R4]
       ·rw [if_neg h1,if_neg R4]
    case measure=>simp [intOf];omega
   ·have hH:∀j,j < f.n->(if j < i then (-1:Int) else 0) = -1:=fun j hj=>by rw [if_pos R4]
    have xo:L9 wr g f wb hb (w.heap.size+4) (fun _ => -1) [] (.slice none 0 0) :=
     ⟨xa.ne,xa.ltw,xa.lth,xa.size,xa.c0,xa.c1,xa.c2,xa.c3,xa.fz,xa.row.congr (fun j hj=>by rw [hH j hj]),xa.own⟩
    clear xa hH;go_wp2_with fail;have xf:=cK g f wb hb (w.heap.size+4) (fun _ => -1) [] (.slice none 0 0) 0 0 wr xo R5;rw[show ((0:Nat):Int)=0 from rfl] at xf;refine xf.mono ?_;clear xf;rintro e w2 ⟨H,T,tv,ok,rfl,yn,xv,xm⟩;have xz:Below w.heap.size w w2:=xp.trans (xm.below R4 (X0 xo yk yh));obtain⟨rfl,rfl,rfl⟩:ok=true/\H=(fun i=>if i=0 then 0 else -1)/\T=[0]:=by
     rcases xv with ⟨_,h⟩ | ⟨_,_,h,_⟩ | ⟨_,_,h,_⟩ | ⟨h1,_,_,h2,h3⟩
     ·omega
     ·exact absurd rfl h
     ·exact absurd rfl h
     ·exact ⟨h1,h2,h3⟩
    have yq:oF g f wb hb (w.heap.size+4) w2 f.n true:=by
     refine Or.inr ⟨rfl,_,_,tv,yn,⟨fun a ha=>?_,fun t htm=>?_⟩,?_,L1c _,by simp,fun a ha hz=>?_⟩
     ·by_cases e:a=0
      ·subst e;simp only [if_pos];exact ⟨by omega,by omega,fun _=>(B6 g f).reach_first⟩
      ·simp only [if_neg e];exact ⟨by omega,by omega,fun h=>by omega⟩
     ·obtain rfl:t=0:=by simpa using htm
      exact⟨zg,by simp⟩
     ·have h1:=iK (n:=f.n) (H:=fun _ => -1) (c:=0) (v:=0) R4 R5 R4
      have h2:left f.n (fun _ => -1)<=f.n:=by unfold left;exact Nat.le_trans (List.length_filter_le _ _) R5
      simp only[List.length_cons,List.length_nil];omega
     ·by_cases e:a=0
      ·subst e;exact Or.inl R5
      ·simp only [if_neg e] at hz;omega
    clear xv yn xm xo xp xh xb;go_wp2_with fail;go_loopg [8] f.n (fun k v wx=>∃ok:Bool,v=.bool ok/\oF g f wb hb (w.heap.size+4) wx k ok/\Below w.heap.size w wx)
    case atStart=>exact ⟨true,rfl,yq,xz⟩
    case round =>
     obtain⟨ok,rfl,xq,xg⟩:=hrel;rcases xq with ⟨rfl,yc⟩ | ⟨rfl,H,T,tv,xc,xr,yg,zk,yp,yl⟩
     ·go_wp2_with fail
      go_ret2;exact W6 _ false rfl ⟨fun h=>(by cases h),fun h=>absurd h yc⟩ xg
     ·have ye:=(show Hid _ from yp);clear yp
      have yo:=(show Hid _ from yl);clear yl;have d2:=xc.c2;have d3:=xc.c3;have fz:=xc.fz;have yt:wb < wr.heap.size:=L0a xc.ltw xc.size;have xl:T=[]->O5 g f w (.returned (.tuple #[.slice (some ⟨hb,0,none⟩) f.n f.n,.bool true])) wr:=fun hTe =>
       W6 _ true rfl ⟨fun _=>G4.fits_of_shut (H:=H) (by show 0 < f.n;omega) ye.out (fun a=>(aH _).1) (fun a ha hz=>(yo.out a ha hz).elim (fun h=>by rw [hTe] at h;cases h) id),fun _=>rfl⟩ xg
      have xn:=(show Hid _ from xl);clear xl;rcases xc.own.2 with ⟨hv,h0⟩ | ⟨gb,ya,zc,hv,zj,xx,xy,za,zd,xw⟩
      ·obtain rfl:T=[]:=List.length_eq_zero_iff.1 h0
       rw[hv] at d3;clear hv h0;go_wp2_with fail;go_ret2;exact xn.out R5
      ·clear zc xx zd xw
       rcases List.eq_nil_or_concat T with rfl | ⟨T0,t,rfl⟩
       ·rw [hv] at d3
        simp only[List.length_nil] at d3;clear hv;go_wp2_with fail;go_ret2;exact xn.out R5
       ·have yf:(T0.concat t).length=T0.length+1:=by simp
        rw[yf] at hv yg xy;have xd:=xc.own;rw[hv,yf] at xd;have zh:wr.cell? ⟨gb,T0.length,none⟩=some (.int .i64 (t:Int)):=by
         have:=xd.cells (g:=gb) rfl T0.length (.int .i64 (t:Int)) (by simp [mE]);rw[Go.WideShapes.add_plain,Nat.zero_add] at this;exact this
        have xk:wr.ownsRow (w.heap.size+4) 3 1 (.slice (some ⟨gb,0,none⟩) T0.length ya) T0.length (mE T0):=ownsRow_pop (last:=[.int .i64 (t:Int)]) (by simp [mE]) (by simpa [mE] using xd);rw[hv] at d3;have yx:gb < wr.heap.size:=(xd.lt gb rfl).2;have yj:T0.length<=59:=by omega
        obtain⟨yv,yz⟩:=xr.2 t R5;have ym:L9 (wr.setCell ⟨wb,3,none⟩ (.slice (some ⟨gb,0,none⟩) T0.length ya)) g f wb hb (w.heap.size+4) H T0 (.slice (some ⟨gb,0,none⟩) T0.length ya):=by
         have zm:=xc.ne;refine⟨xc.ne,xc.ltw,xc.lth,by simpa using xc.size,?_,?_,?_,?_,?_,xc.row.setOther (by exact xc.ne.symm) _,ownsRow_setCell_below xk (a:=⟨wb,3,none⟩) xc.ltw _⟩
         ·have:=xc.c0;go_light;go_simp
         ·have:=xc.c1;go_light;go_simp
         ·go_light;go_simp
         ·go_light;go_simp
         ·go_light;go_simp
        have xb:Below w.heap.size w (wr.setCell ⟨wb,3,none⟩ (.slice (some ⟨gb,0,none⟩) T0.length ya)):=xg.setCell yk _;have xs:Inv (B6 g f) H T0:=⟨xr.1,fun x hx=>xr.2 x (by simp [hx])⟩;have xe:=oP w.heap.size g f wb hb (w.heap.size+4) H T0 _ t _ ym R4 yk yh ((hg.mono hB).below xb) ((hf.mono hB).below xb) hgood (ht.below hB0 (xb.mono hB)) yj yv xs yz
        have yy:=(show Hid _ from xe);clear xe;clear hv yf xd xk ym;go_wp2_with fail;refine Calls.mono yy.out ?_;rintro e w3 ⟨ok,H',T',ys,rfl,yr,xj⟩;have xu:Below w.heap.size w w3:=xb.trans yr;have yb:oF g f wb hb (w.heap.size+4) w3 (gk - 1) ok:=by
         rcases xj with ⟨rfl,yc⟩ | ⟨rfl,yw,yu,xt,zb⟩
         ·exact Or.inl ⟨rfl,yc⟩
         ·refine Or.inr ⟨rfl,H',T',ys,yw,yu,by have:=xt.2.2.2;omega,by omega,by rw [xt.1 0 (by rw [ye.out];omega)];exact ye.out,fun a ha hz=>?_⟩
          rcases xt.2.2.1 a ha hz with hz0 | hm
          ·rcases yo.out a ha hz0 with hm | hm
           ·by_cases e:a=t
            ·subst e;exact Or.inr zb
            ·exact Or.inl (xt.2.1 a (by simpa [e] using hm))
           ·exact Or.inr (hm.ext (aH _).1 hz0 xt.1)
          ·exact Or.inl hm
        clear xj;go_wp2_with fail;go_roundg (gk - 1)
        case measure=>go_light;omega
        case rel=>exact ⟨ok,rfl,yb,xu⟩
end Go.Proofs.YtbkmgoffiigdbaaGreatDoor
