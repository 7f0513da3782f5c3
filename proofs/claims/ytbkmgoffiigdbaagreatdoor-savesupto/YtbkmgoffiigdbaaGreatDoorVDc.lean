import Derived.Test.YtbkmgoffiigdbaaGreatDoorVCj
import Derived.RegionTactic
import Derived.BigRegion
import Derived.WalkSmall
namespace Go.Proofs.YtbkmgoffiigdbaaGreatDoor
open Go.RowKit Go.Sort Go.Proofs.Tryz
set_option maxHeartbeats 4000000
set_option maxRecDepth 100000
def nQ (hb:Nat) (g:PgR) (f:FnR) (H:Nat->Int) (w:World) (e:Ending) (w':World):Prop :=
 ∃fr ok H',e=.returned (.tuple #[.bool fr,.bool ok])/\rC (B6 g f) H H' fr ok/\But (·=hb) w w'/\w'.rowIs hb 3 f.n (fun i=>J (H' i))
theorem cT {hb:Nat} {g:PgR} {f:FnR} {H:Nat->Int} {w:World} {e:Ending} {w':World} (fr ok:Bool) (H':Nat->Int)
  (he:e=.returned (.tuple #[.bool fr,.bool ok])) (hs:rC (B6 g f) H H' fr ok) (hw:But (·=hb) w w') (hr:w'.rowIs hb 3 f.n (fun i=>J (H' i))):nQ hb g f H w e w':=⟨fr,ok,H',he,hs,hw,hr⟩
theorem a1c (hb:Nat) (g:PgR) (f:FnR) (H:Nat->Int) (w:World) (hB:hb < w.heap.size) (hg:I9 hb w g) (hf:N2 hb w f) (hgood:yC g f)
  (hrow:w.rowIs hb 3 f.n (fun i=>J (H i))) (hH:∀a,a < f.n -> -1<=H a/\H a<=10/\(0<=H a->(B6 g f).Reach a (H a))) :
  Calls prog 135 #[.agg #[.slice g.a g.n g.c],.agg #[J f.p,J f.l,.slice f.a f.n f.c],.slice (zA hb) f.n f.n] w fun e w' =>
   nQ hb g f H w e w':=by
 have HH:=(show Hid _ from hH);clear hH;have yq:1<=f.n:=hgood.1;have yu:f.n<=60:=hgood.2.1;obtain⟨ha,ys,xp⟩:=hf.2 yq;have xw:=(show Hid _ from xp);clear xp;rw[ha];clear ha;go_enter func135,ntmps135;go_wp2
 generalize hqW1:((w.alloc (.cells #[.slice g.a g.n g.c] 41)).alloc (.cells #[J f.p,J f.l,.slice (some ⟨f.b,f.o,none⟩) f.n f.c] 163))=W1 at *
 have xe:But (·=hb) w W1:=by subst hqW1;exact ((But.refl _ _).alloc _).alloc _
 have xt:W1.rowIs hb 3 f.n (fun i=>J (H i)):=by subst hqW1;exact (hrow.alloc _).alloc _
 have g0:W1.cell? ⟨w.heap.size,0,none⟩=some (.slice g.a g.n g.c):=by subst hqW1;go_simp
 have f0:W1.cell? ⟨w.heap.size+1,0,none⟩=some (J f.p):=by subst hqW1;go_simp
 have f1:W1.cell? ⟨w.heap.size+1,1,none⟩=some (J f.l):=by subst hqW1;go_simp
 have f2:W1.cell? ⟨w.heap.size+1,2,none⟩=some (.slice (some ⟨f.b,f.o,none⟩) f.n f.c):=by subst hqW1;go_simp
 have zb:W1.heap.size=w.heap.size+2:=by subst hqW1;simp
 clear hqW1;go_loopw [8,9] (fun v i wr=>∃(pc:Nat) (H':Nat->Int) (fr:Bool),pc<=f.n/\i=J pc/\v=.bool fr/\But (·=hb) W1 wr/\wr.rowIs hb 3 f.n (fun i=>J (H' i)) /\
   Sp (B6 g f) H H' (∀a,a < pc->0<=H a->(B6 g f).Shut H a) fr) (fun _ i _=>f.n - (intOf i).toNat)
 case atStart=>exact ⟨0,H,false,L4c _,rfl,rfl,But.refl _ _,xt,HH.out,fun _ _=>rfl,L4a ⟨rfl,fun _=>rfl,fun a ha=>by omega⟩⟩
 case round =>
  obtain⟨pc,H',fr,zo,rfl,rfl,xd,xf,xx⟩:=hrel;have yx:w.heap.size+2<=wr.heap.size:=by have:=xd.size;omega
  have yj:w.heap.size < wr.heap.size:=by omega
  have ym:w.heap.size+1 < wr.heap.size:=by omega
  rw[<- xd.cell (by show w.heap.size < _;omega) (by show ¬w.heap.size=hb;omega)] at g0;rw[<- xd.cell (by show w.heap.size+1 < _;omega) (by show ¬w.heap.size+1=hb;omega)] at f0 f1 f2;by_cases hlt:pc < f.n
  ·have xz:=xf.cell hlt
   obtain⟨zk,zm,yl⟩:=xx.1 pc hlt;have zf:=(show Hid _ from yl);clear yl;by_cases hneg:H' pc < 0
   ·clear g0 f0 f1
    go_wp2
    go_roundw
    case rel=>exact ⟨pc+1,H',fr,by omega,by go_num,rfl,xd,xf,xx.imp fun he hq a ha hz=>by
      by_cases e:a=pc
      ·subst e;rw [he] at hneg;omega
      ·exact hq a R5 hz⟩
    case measure=>simp [intOf];omega
   ·have xh:Below hb w wr:=(xe.trans xd).below R5 (fun k hk=>by omega)
    obtain⟨co,ca⟩:=xw.out pc hlt;rw[<- xh.cell (p:=⟨f.b,_,none⟩) ys] at co ca;have yt:I9 hb wr g:=hg.below xh;have xy:=hgood.2.2.2 pc hlt;have ya:=(show Hid _ from xy);clear xy;have zc:f.b < wr.heap.size:=by omega
    have zn:hb < wr.heap.size:=by omega
    obtain⟨q,hq⟩:∃q,q=(B6 g f).pop pc:=⟨_,rfl⟩
    obtain⟨zd,zh⟩:=hgood.pop_bd hlt;rw[<- hq] at zd zh;obtain⟨r,hr⟩:∃r,r=(B6 g f).push pc:=⟨_,rfl⟩
    obtain⟨yy,yv⟩:=bP (f.op pc);rw[show R7 (f.op pc)=r from hr.symm] at yy yv;have HP:Hid (∀W,L0d wr W->Calls prog 169 #[.agg #[.slice g.a g.n g.c],.agg #[J (f.op pc),J (f.ar pc)]] W fun e w'=>e=.returned (J q)/\L0d W w'):=by
     intro W hW;rw[hq];exact a5I hb g (f.op pc) (f.ar pc) W (by have:=hW.size;omega) (yt.below (hW.mono R5)) (fun ho=>S8 ya.out ho)
    have HU:Hid (∀W,Calls prog 176 #[J (f.op pc)] W fun e w'=>e=.returned (J r)/\w'=W):=by
     intro W;rw[hr];exact a0A _ W
    have HQ:=(show Hid _ from hq);clear hq;have HR:=(show Hid _ from hr);clear hr;go_wp2_with fail;refine (HP.out _ (by repeat (first | exact L3b _ _ | refine Below.setCell ?_ Q1 _ | refine L3a ?_ Q1 _))).mono ?_;rintro e w2 ⟨rfl,xm⟩;have k0:w2.cell? ⟨hb,pc,none⟩=some (J (H' pc)):=by rw [xm.cell Q9];go_simp
    have k1:w2.cell? ⟨wr.heap.size,0,none⟩=some (J (f.op pc)):=by rw [xm.cell R6];go_simp
    have k2:w2.cell? ⟨wr.heap.size,1,none⟩=some (J (f.ar pc)):=by rw [xm.cell R6];go_simp
    have k3:w2.cell? ⟨w.heap.size+1,2,none⟩=some (.slice (some ⟨f.b,f.o,none⟩) f.n f.c):=by rw [xm.cell Q9];go_simp
    have xg:But (·=hb) wr w2:=((But.refl _ wr).alloc _).trans (But.of_below xm);have xl:w2.rowIs hb 3 f.n (fun i=>J (H' i)):=(xf.alloc _).of_block (xm.block hb Q9);have zi:wr.heap.size+1<=w2.heap.size:=by have:=xm.size;simpa using this
    clear xm g0 f0 f1 f2 co ca xz HP;go_wp2_with fail;go_quiet ((go_at_call 176;exact Calls.quiet_of_same (HU.out _)))
    have yw:0<=H' pc:=by omega
    have xk:=zf.out yw;have xb:=(show Hid _ from xk);clear xk;by_cases hb1:H' pc < q
    ·go_wp2_with fail
     go_ret2;exact cT fr false H' rfl (L4a ⟨rfl,G2.not_fits_pop xb.out (L4a (by rw [<- HQ.out];exact hb1))⟩) ((xe.trans xd).trans (xg.drewN _)) xl
    by_cases xm:10 < H' pc - q+r
    ·go_wp2_with fail
     go_ret2;exact cT fr false H' rfl (L4a ⟨rfl,G2.not_fits_pop xb.out (L4b (by unfold G2.behind;rw [<- HQ.out,<- HR.out];exact xm))⟩) ((xe.trans xd).trans (xg.drewN _)) xl
    go_wp2_with fail;refine (a5v pc (f.op pc) (f.ar pc) _ R5 (fun ho=>(Z0 ya.out ho).1)).mono ?_;rintro e w4 ⟨v4,rfl,xr,xv⟩;have xi:But (·=hb) wr w4:=(xg.drewN nq).trans (But.of_below xv);have xq:w4.rowIs hb 3 f.n (fun i=>J (H' i)):=xl.of_block (xv.block hb (by show hb < w2.heap.size;omega));have k4:w4.cell? ⟨w.heap.size+1,2,none⟩=some (.slice (some ⟨f.b,f.o,none⟩) f.n f.c):=by rw [xv.cell (by show w.heap.size+1 < w2.heap.size;omega)];exact k3
    have ze:w2.heap.size<=w4.heap.size:=xv.size;clear xv k0 k1 k2 k3;have xu:Hid ((B6 g f).behind pc (H' pc)=H' pc - q+r):=by show _=_;unfold G2.behind;rw [<- HQ.out,<- HR.out]
    generalize hbv:H' pc - q+r=bv at *
    have ye:0<=bv:=by omega
    have xj:bv<=10:=by omega
    clear hbv;have yg:(B6 g f).next pc=D9 pc (f.op pc) (f.ar pc):=rfl;generalize D9 pc (f.op pc) (f.ar pc)=L at xr yg;have yc:=(show Hid _ from yg);clear yg;rcases xr with ⟨rfl,rfl⟩ | ⟨lb,rfl,yf,yh,yk⟩
    ·go_wp2_with fail
     go_loop [8,14] (fun v i=>v=.bool fr/\i=J 0) (fun _ _=>0)
     case atStart=>exact ⟨rfl,rfl⟩
     case round =>
      obtain⟨rfl,rfl⟩:=hrel;go_wp2
      go_roundw
      case rel=>exact ⟨pc+1,H',fr,by omega,by go_num,rfl,xd.trans xi,xq,xx.imp fun he hq a ha hz=>by
       by_cases e:a=pc
       ·subst e
        exact⟨by rw [<- he,<- HQ.out];omega,by rw [<- he,xu.out];exact xj,fun c hc=>by rw [yc.out] at hc;cases hc⟩
       ·exact hq a R5 hz⟩
      case measure=>simp [intOf];omega
    ·have zg:=(show Hid _ from yk);clear yk
     have zp:L.length<=2:=by rw [<- yc.out];show (D9 pc (f.op pc) (f.ar pc)).length<=2;unfold D9;repeat' split
                             all_goals simp
     go_wp2_with fail;go_loopw [8,14] (fun v vi wx=>∃(i:Nat) (H2:Nat->Int) (xs:Bool),i<=L.length/\vi=J i/\v=.bool xs/\But (·=hb) w4 wx/\wx.rowIs hb 3 f.n (fun i=>J (H2 i)) /\
       Sp (B6 g f) H H2 ((∀a,a < pc->0<=H a->(B6 g f).Shut H a)/\H' pc=H pc/\∀j,j < i->L.getD j 0 < f.n/\H (L.getD j 0)=bv) xs) (fun _ vi _=>L.length - (intOf vi).toNat)
     case atStart=>exact ⟨0,H',fr,L4c _,rfl,rfl,But.refl _ _,xq,xx.imp fun he hq=>⟨hq,he pc,fun j hj=>by omega⟩⟩
     case round =>
      obtain⟨i,H2,xs,hi,rfl,rfl,xa,xc,xn⟩:=hrel;have yz:=xa.size;have yb:¬lb=hb:=by have:w2.heap.size<=lb:=yf;omega
      have kx:wr.cell? ⟨w.heap.size+1,2,none⟩=some (.slice (some ⟨f.b,f.o,none⟩) f.n f.c):=by rw [xa.cell (by show w.heap.size+1 < w4.heap.size;omega) (by show ¬w.heap.size+1=hb;omega)];exact k4
      have xo:But (·=hb) w wr:=((xe.trans xd).trans xi).trans xa;by_cases hil:i < L.length
      ·obtain ⟨c,hc⟩:∃c,c=L.getD i 0:=⟨_,rfl⟩
       have yo:c∈(B6 g f).next pc:=by rw [yc.out,hc,List.getD_eq_getElem?_getD,L1b hil];exact List.getElem_mem hil
       have yd:=(show Hid _ from yo);clear yo;have kc:wr.cell? ⟨lb,i,none⟩=some (J (c:Nat)):=by rw [xa.cell yh yb,zg.out i hil,hc]
       have HC:=(show Hid _ from hc);clear hc;have za:lb < wr.heap.size:=by omega
       have yi:(B6 g f).Reach c bv:=by rw [<- xu.out];exact G2.reach_next xb.out yd.out
       have yr:=(show Hid _ from yi);clear yi;by_cases hcn:c < f.n
       ·have kh:=xc.cell hcn
        have kf:=xc.frozen c;obtain⟨zj,zl,yn⟩:=xn.1 c hcn;have yp:=(show Hid _ from yn);clear yn;by_cases hcneg:H2 c < 0
        ·go_wp2_with fail
         go_quiet (fail)
         go_wp2_with fail;go_roundw
         case rel=>exact ⟨i+1,fun j=>if j=c then bv else H2 j,true,by omega,by go_num,rfl,((xa.drewN _).setCell (p:=⟨hb,c,none⟩) (L4a rfl) (J bv)),(xc.set c (J bv)).congr (fun j _=>by by_cases e:j=c <;> simp [e]),xn.set hcn hcneg ye xj yr.out⟩
         case measure=>simp [intOf];omega
        by_cases hceq:(H2 c != bv)=true
        ·go_wp2_with fail
         go_quiet (fail)
         go_wp2_with fail;go_ret2;exact cT xs false H2 rfl (L4a ⟨rfl,G2.not_fits_two xb.out yd.out (yp.out R5) (by rw [xu.out];simpa using hceq)⟩) (xo.drewN _) xc
        ·go_wp2_with fail
         go_quiet (fail)
         go_wp2_with fail;go_roundw
         case rel=>exact ⟨i+1,H2,xs,by omega,by go_num,rfl,xa.drewN _,xc,xn.imp fun he ⟨q1,q2,q3⟩=>⟨q1,q2,fun j hj=>by
          by_cases e:j=i
          ·subst e;rw [<- HC.out];exact ⟨hcn,by rw [<- he];simpa using hceq⟩
          ·exact q3 j R5⟩⟩
         case measure=>simp [intOf];omega
       ·go_wp2_with fail
        go_quiet (fail)
        go_wp2_with fail;go_ret2;exact cT xs false H2 rfl (L4a ⟨rfl,G2.not_fits_past xb.out yd.out (by show f.n<=c;omega)⟩) (xo.drewN _) xc
      ·go_wp2_with fail
       go_roundw
       case rel=>exact ⟨pc+1,H2,xs,by omega,by go_num,rfl,(xd.trans xi).trans xa,xc,xn.imp fun he ⟨q1,q2,q3⟩ a ha hz=>by
        by_cases e:a=pc
        ·subst e
         refine⟨by rw [<- q2,<- HQ.out];omega,by rw [<- q2,xu.out];exact xj,fun c hc=>?_⟩;rw[yc.out] at hc;obtain⟨j,hj,rfl⟩:=List.getElem_of_mem hc;have:=q3 j R5;rw[List.getD_eq_getElem?_getD,L1b hj] at this;exact⟨this.1,by rw [<- q2,xu.out];exact this.2⟩
        ·exact q1 a R5 hz⟩
       case measure=>simp [intOf];omega
  ·clear g0 f0 f1
   go_wp2
   go_ret2;exact cT fr true H' rfl (L4b ⟨rfl,xx.imp fun _ hq a ha hz=>hq a (by have:a < f.n:=ha;omega) hz⟩) (xe.trans xd) xf
theorem iE:(prog.info? 3).map (fun i=>(i.zero,i.size,i.bytes))=some (some (J 0),1,8):=by kernel_rfl
def V7 (g:PgR) (f:FnR) (w:World) (e:Ending) (w':World):Prop :=
 ∃v ok,e=.returned (.tuple #[v,.bool ok])/\(ok=true↔(B6 g f).Fits)/\L0d w w'
theorem aB {g:PgR} {f:FnR} {w:World} {e:Ending} {w':World} (v:Value) (ok:Bool) (he:e=.returned (.tuple #[v,.bool ok])) (hs:ok=true↔(B6 g f).Fits) (hw:L0d w w'):V7 g f w e w':=⟨v,ok,he,hs,hw⟩
theorem wI (B:Nat) (g:PgR) (f:FnR) (w:World) (hB:B<=w.heap.size) (hg:I9 B w g) (hf:N2 B w f) (hgood:yC g f) :
  Calls prog 98 #[.agg #[.slice g.a g.n g.c],.agg #[J f.p,J f.l,.slice f.a f.n f.c]] w fun e w'=>V7 g f w e w':=by
 have ya:1<=f.n:=hgood.1;have yg:f.n<=60:=hgood.2.1;have xz:=Go.run_make_row' (P:=prog) 24 3 (J 0) 8 underlying24 iE rfl .i64 .i64 f.n R5 R5;go_enter func98,ntmps98;go_wp2
 generalize hqW1:(((w.alloc (Obj.cells #[.slice g.a g.n g.c] 41)).alloc (Obj.cells #[J f.p,J f.l,.slice f.a f.n f.c] 163)).alloc (Obj.cells (madeCells #[Value.int IntKind.i64 0] f.n) 3))=W1 at *
 have xd:L0d w W1:=by subst hqW1;repeat (first | exact L3b _ _ | refine L3a ?_ Q1 _)
 have xg:W1.rowIs (w.heap.size+1+1) 3 f.n (fun _=>J 0):=by
  subst hqW1;have:=World.rowIs_made ((w.alloc (Obj.cells #[.slice g.a g.n g.c] 41)).alloc (Obj.cells #[J f.p,J f.l,.slice f.a f.n f.c] 163)) (J 0) f.n 3;simpa using this
 have g0:W1.cell? ⟨w.heap.size,0,none⟩=some (.slice g.a g.n g.c):=by subst hqW1;go_simp
 have f0:W1.cell? ⟨w.heap.size+1,0,none⟩=some (J f.p):=by subst hqW1;go_simp
 have f1:W1.cell? ⟨w.heap.size+1,1,none⟩=some (J f.l):=by subst hqW1;go_simp
 have f2:W1.cell? ⟨w.heap.size+1,2,none⟩=some (.slice f.a f.n f.c):=by subst hqW1;go_simp
 have yo:W1.heap.size=w.heap.size+3:=by subst hqW1;simp
 clear hqW1;obtain⟨hb,xr⟩:∃hb,hb=w.heap.size+1+1:=⟨_,rfl⟩
 rw[<- xr] at xg ⊢;have xv:=(show Hid _ from xr);clear xr;have yl:hb<=w.heap.size+2:=by have:=xv.out;omega
 have yc:w.heap.size+2<=hb:=by have:=xv.out;omega
 clear xz;go_loopw [7] (fun v wr=>∃i:Nat,1<=i/\i<=f.n/\v=J i/\But (·=hb) W1 wr/\wr.rowIs hb 3 f.n (fun j=>J (if 1<=j/\j < i then -1 else 0))) (fun v _=>f.n - (intOf v).toNat)
 case atStart=>exact ⟨1,L1c _,ya,rfl,But.refl _ _,xg.congr (fun j _=>by rw [if_neg R5])⟩
 case round =>
  obtain⟨i,yr,yp,rfl,xm,xc⟩:=hrel;by_cases hlt:i < f.n
  ·have kh:=xc.cell hlt
   have kf:=xc.frozen i;go_wp2
   go_roundw
   case rel=>exact ⟨i+1,by omega,by omega,by go_num,xm.setCell (L4a rfl) _,(xc.set i (J (-1))).congr (fun j _=>by
    by_cases e:j=i
    ·subst e;rw [if_pos rfl,if_pos R5]
    ·rw [if_neg e]
     by_cases h1:1<=j/\j < i
     ·rw [if_pos h1,if_pos R5]
     ·rw [if_neg h1,if_neg R5])⟩
   case measure=>simp [intOf];omega
  ·go_wp2
   have yb:Hid (∀j,(fun j:Nat=>if 1<=j/\j < i then (-1:Int) else 0) j=if 1<=j/\j < i then (-1:Int) else 0):=fun _=>rfl
   have xf:(B6 g f).n=f.n:=rfl;have ym:=(show Hid _ from xf);clear xf;have xb:(∀a,a < f.n -> -1<=(if 1<=a/\a < i then (-1:Int) else 0)/\(if 1<=a/\a < i then (-1:Int) else 0)<=10/\(0<=(if 1<=a/\a < i then (-1:Int) else 0)->(B6 g f).Reach a (if 1<=a/\a < i then (-1:Int) else 0))):=by
    intro a ha;by_cases h1:1<=a/\a < i
    ·rw [if_pos h1];exact ⟨by omega,by omega,fun h=>by omega⟩
    ·rw [if_neg h1];refine ⟨by omega,by omega,fun _=>?_⟩
     obtain rfl:a=0:=by omega
     exact (B6 g f).reach_first
   have xu:=(show Hid _ from xb);clear xb;generalize hH0:(fun j:Nat=>if 1<=j/\j < i then (-1:Int) else 0)=H0 at *
   have e0:∀j,H0 j=if 1<=j/\j < i then (-1:Int) else 0:=fun j=>by rw [<- hH0]
   have xk:wr.rowIs hb 3 f.n (fun j=>J (H0 j)):=xc.congr fun j _=>by rw [e0]
   have xt:∀a,a < f.n -> -1<=H0 a/\H0 a<=10/\(0<=H0 a->(B6 g f).Reach a (H0 a)):=fun a ha=>by rw [e0];exact xu.out a ha
   have xs:H0 0=0:=by rw [e0,if_neg R5]
   have xq:=(show Hid _ from xt);have yh:=(show Hid _ from xs);clear xt xs e0 hH0 xu yb xc;go_loopg [8] (left f.n H0) (fun k _ wx=>∃H:Nat->Int,left f.n H<=k/\But (·=hb) W1 wx/\wx.rowIs hb 3 f.n (fun j=>J (H j))/\H 0=0/\∀a,a < f.n -> -1<=H a/\H a<=10/\(0<=H a->(B6 g f).Reach a (H a)))
   case atStart=>exact ⟨H0,L1c _,xm,xk,yh.out,xq.out⟩
   case round =>
    obtain⟨H,hk,xa,xj,xw,xx⟩:=hrel;have xo:=(show Hid _ from xw);clear xw;have yi:=(show Hid _ from xx);clear xx;have xy:=xa.size;have yq:w.heap.size < wr.heap.size:=by omega
    have yn:w.heap.size+1 < wr.heap.size:=by omega
    have kg:wr.cell? ⟨w.heap.size,0,none⟩=some (.slice g.a g.n g.c):=by rw [xa.cell (by show w.heap.size < _;omega) (by show ¬w.heap.size=hb;omega)];exact g0
    have k0:wr.cell? ⟨w.heap.size+1,0,none⟩=some (J f.p):=by rw [xa.cell (by show w.heap.size+1 < _;omega) (by show ¬w.heap.size+1=hb;omega)];exact f0
    have k1:wr.cell? ⟨w.heap.size+1,1,none⟩=some (J f.l):=by rw [xa.cell (by show w.heap.size+1 < _;omega) (by show ¬w.heap.size+1=hb;omega)];exact f1
    have k2:wr.cell? ⟨w.heap.size+1,2,none⟩=some (.slice f.a f.n f.c):=by rw [xa.cell (by show w.heap.size+1 < _;omega) (by show ¬w.heap.size+1=hb;omega)];exact f2
    have xh:L0d w wr:=xd.trans (xa.below R5 (fun k hk=>by omega));have yd:I9 hb wr g:=((hg.mono hB).below xh).mono R5;have yk:N2 hb wr f:=((hf.mono hB).below xh).mono R5;clear g0 f0 f1 f2;go_wp2_with fail;refine (a1c hb g f H wr R5 yd yk hgood xj yi.out).mono ?_;rintro e w2 ⟨fr,ok,H',rfl,xp,xe,xi⟩;have xl:L0d w w2:=xh.trans (xe.below R5 (fun k hk=>by omega))
    rcases xp with ⟨rfl,xn⟩ | ⟨rfl,yj⟩
    ·go_wp2_with fail
     go_ret2;exact aB _ false rfl ⟨fun h=>(by cases h),fun h=>absurd h xn⟩ xl
    ·rcases yj with ⟨hs1',hs2',⟨rfl,hse,hsh⟩ | ⟨rfl,hsl⟩⟩
     ·go_wp2_with fail
      go_ret2;exact aB _ true rfl ⟨fun _=>G2.fits_of_shut (H:=H) (by show 0 < f.n;omega) xo.out (fun a=>(bP _).1) hsh,fun _=>rfl⟩ xl
     ·have ye:=(show Hid _ from hs1');have yf:=(show Hid _ from hs2');clear hs1' hs2'
      go_wp2_with fail;go_roundg (left f.n H')
      case measure=>exact L0a hsl hk
      case rel=>exact ⟨H',L1c _,xa.trans xe,xi,by rw [yf.out 0 (by rw [xo.out];omega)];exact xo.out,ye.out⟩
theorem G2.Shut.ext {F:G2} {H H':Nat->Int} {a:Nat} (h:F.Shut H a) (hp:0<=F.push a) (ha:0<=H a) (hx:∀a,0<=H a->H' a=H a):F.Shut H' a:=by
 obtain⟨h1,h2,h3⟩:=h;have he:=hx a ha;refine⟨by rw [he];exact h1,by rw [he];exact h2,fun c hc=>?_⟩;obtain⟨h4,h5⟩:=h3 c hc;refine⟨h4,?_⟩;rw[he,hx c (by rw [h5];unfold G2.behind;omega),h5]
def rA (g:PgR) (f:FnR) (wb hb base:Nat) (w:World) (k:Nat) (ok:Bool):Prop :=
 (ok=false/\¬(B6 g f).Fits)\/(ok=true/\∃H T tv,O2 w g f wb hb base H T tv/\Inv (B6 g f) H T/\T.length+left f.n H<=k/\k<=f.n/\H 0=0/\∀a,a < f.n->0<=H a->a∈T\/(B6 g f).Shut H a)
theorem qK (B:Nat) (g:PgR) (f:FnR) (w:World) (hB0:0 < B) (hB:B<=w.heap.size) (hg:I9 B w g) (hf:N2 B w f) (hgood:yC g f) (ht:Tab w) :
  Calls prog 175 #[.agg #[.slice g.a g.n g.c],.agg #[J f.p,J f.l,.slice f.a f.n f.c]] w fun e w'=>V7 g f w e w':=by
 have zf:1<=f.n:=hgood.1;have zk:f.n<=60:=hgood.2.1;have zg:=Go.run_make_row' (P:=prog) 24 3 (J 0) 8 underlying24 iE rfl .i64 .i64 f.n R5 R5;go_enter func175,ntmps175;go_wp2
 go_region
 ·have xn:(((((w.alloc (Obj.cells #[.slice g.a g.n g.c] 41)).alloc (Obj.cells #[J f.p,J f.l,.slice f.a f.n f.c] 163)).alloc (Obj.cells (madeCells #[Value.int IntKind.i64 0] f.n) 3)).alloc (Obj.cells #[.slice g.a g.n g.c,.slice f.a f.n f.c,.slice (some { block:=(w.heap.size+1+1),off:=0 }) f.n f.n,zD] 249)).drew).rowIs (w.heap.size+1+1) 3 f.n (fun _=>J 0):=by
   have:=((World.rowIs_made ((w.alloc (Obj.cells #[.slice g.a g.n g.c] 41)).alloc (Obj.cells #[J f.p,J f.l,.slice f.a f.n f.c] 163)) (J 0) f.n 3).alloc (Obj.cells #[.slice g.a g.n g.c,.slice f.a f.n f.c,.slice (some { block:=(w.heap.size+1+1),off:=0 }) f.n f.n,zD] 249)).drew;simpa using this
  generalize hqW1:(((((w.alloc (Obj.cells #[.slice g.a g.n g.c] 41)).alloc (Obj.cells #[J f.p,J f.l,.slice f.a f.n f.c] 163)).alloc (Obj.cells (madeCells #[Value.int IntKind.i64 0] f.n) 3)).alloc (Obj.cells #[.slice g.a g.n g.c,.slice f.a f.n f.c,.slice (some { block:=(w.heap.size+1+1),off:=0 }) f.n f.n,zD] 249)).drew)=W1 at *
  have d0:W1.cell? ⟨(w.heap.size+1+1+1),0,none⟩=some (.slice g.a g.n g.c):=by subst hqW1;go_simp
  have d1:W1.cell? ⟨(w.heap.size+1+1+1),1,none⟩=some (.slice f.a f.n f.c):=by subst hqW1;go_simp
  have d2:W1.cell? ⟨(w.heap.size+1+1+1),2,none⟩=some (.slice (some ⟨(w.heap.size+1+1),0,none⟩) f.n f.n):=by subst hqW1;go_simp
  have d3:W1.cell? ⟨(w.heap.size+1+1+1),3,none⟩=some zD:=by subst hqW1;go_simp
  have dz:W1.frozen? ⟨(w.heap.size+1+1+1),3,none⟩=false:=by subst hqW1;go_simp
  have zj:W1.heap.size=w.heap.size+4:=by subst hqW1;simp
  have xb:L0d w W1:=by subst hqW1;repeat (first | exact L3b _ _ | refine L3c ?_ | refine L3a ?_ Q1 _)
  clear hqW1;obtain⟨wb,yg⟩:∃wb,wb=(w.heap.size+1+1+1):=⟨_,rfl⟩
  obtain⟨hb,yk⟩:∃hb,hb=(w.heap.size+1+1):=⟨_,rfl⟩
  have xg:O2 W1 g f wb hb (w.heap.size+4) (fun _=>0) [] zD:=by
   rw[yg,yk];exact⟨by omega,by omega,by omega,by omega,d0,d1,d2,d3,dz,xn,World.ownsRow_nil _ _ _ _⟩
  rw[<- yg,<- yk];have yj:w.heap.size<=wb:=by omega
  have yc:w.heap.size<=hb:=by omega
  clear xn d0 d1 d2 d3 dz yg yk zg;have d2:=xg.c2;go_wp2
  clear d2;go_loopw [22] (fun v wr=>∃i:Nat,i<=f.n/\v=J i/\O2 wr g f wb hb (w.heap.size+4) (fun j=>if j < i then -1 else 0) [] zD/\L0d w wr) (fun v _=>f.n - (intOf v).toNat)
  case atStart=>exact ⟨0,L4c _,rfl,xg,xb⟩
  case round =>
   obtain⟨i,hi,rfl,xa,xq⟩:=hrel;have zi:=xa.size;by_cases hlt:i < f.n
   ·have d2:=xa.c2
    have kh:=xa.row.cell hlt;have kf:=xa.row.frozen i;have yy:=xa.ne;go_wp2
    go_roundw
    case rel =>
     go_light
     refine⟨i+1,by omega,by go_num,⟨xa.ne,xa.ltw,xa.lth,by simpa using xa.size,?_,?_,?_,?_,?_,(xa.row.set i (J (-1))).congr (fun j _=>?_),World.ownsRow_nil _ _ _ _⟩,xq.setCell yc _⟩
     ·have:=xa.c0;go_simp
     ·have:=xa.c1;go_simp
     ·go_simp
     ·have:=xa.c3;go_simp
     ·have:=xa.fz;go_simp
     ·by_cases e:j=i
      ·subst e;rw [if_pos rfl,if_pos R5]
      ·rw [if_neg e]
       by_cases h1:j < i
       ·rw [if_pos h1,if_pos R5]
       ·rw [if_neg h1,if_neg R5]
    case measure=>simp [intOf];omega
   ·have hH:∀j,j < f.n->(if j < i then (-1:Int) else 0) = -1:=fun j hj=>by rw [if_pos R5]
    have xp:O2 wr g f wb hb (w.heap.size+4) (fun _ => -1) [] zD :=
     ⟨xa.ne,xa.ltw,xa.lth,xa.size,xa.c0,xa.c1,xa.c2,xa.c3,xa.fz,xa.row.congr (fun j hj=>by rw [hH j hj]),xa.own⟩
    clear xa hH;go_wp2_with fail;have xd:=eA g f wb hb (w.heap.size+4) (fun _ => -1) [] zD 0 0 wr xp R6;rw[show ((0:Nat):Int)=0 from rfl] at xd;refine xd.mono ?_;clear xd;rintro e w2 ⟨H,T,tv,ok,rfl,yp,xv,xj⟩;have xt:L0d w w2:=xq.trans (xj.below R5 (aG xp yj yc));obtain⟨rfl,rfl,rfl⟩:ok=true/\H=(fun i=>if i=0 then 0 else -1)/\T=[0]:=by
     rcases xv with ⟨_,h⟩ | ⟨_,_,h,_⟩ | ⟨_,_,h,_⟩ | ⟨h1,_,_,h2,h3⟩
     ·omega
     ·exact absurd rfl h
     ·exact absurd rfl h
     ·exact ⟨h1,h2,h3⟩
    have yt:rA g f wb hb (w.heap.size+4) w2 f.n true:=by
     refine L4b ⟨rfl,_,_,tv,yp,⟨fun a ha=>?_,fun t htm=>?_⟩,?_,L1c _,by simp,fun a ha hz=>?_⟩
     ·by_cases e:a=0
      ·subst e;simp only [if_pos];exact ⟨by omega,by omega,fun _=>(B6 g f).reach_first⟩
      ·simp only [if_neg e];exact ⟨by omega,by omega,fun h=>by omega⟩
     ·obtain rfl:t=0:=by simpa using htm
      exact⟨zf,by simp⟩
     ·have h1:=kK (n:=f.n) (H:=fun _ => -1) (c:=0) (v:=0) R5 R6 R5
      have h2:left f.n (fun _ => -1)<=f.n:=by unfold left;exact L5a (List.length_filter_le _ _) R6
      simp only[List.length_cons,List.length_nil];omega
     ·by_cases e:a=0
      ·subst e;exact L4a R6
      ·simp only [if_neg e] at hz;omega
    clear xv yp xj xp xq xg xb;go_wp2_with fail;go_loopg [8] f.n (fun k v wx=>∃ok:Bool,v=.bool ok/\rA g f wb hb (w.heap.size+4) wx k ok/\L0d w wx)
    case atStart=>exact ⟨true,rfl,yt,xt⟩
    case round =>
     obtain⟨ok,rfl,xr,xf⟩:=hrel;rcases xr with ⟨rfl,yi⟩ | ⟨rfl,H,T,tv,xc,xo,ye,zm,yl,yo⟩
     ·go_wp2_with fail
      go_ret2;exact aB _ false rfl ⟨fun h=>(by cases h),fun h=>absurd h yi⟩ xf
     ·have yd:=(show Hid _ from yl);clear yl
      have ym:=(show Hid _ from yo);clear yo;have d2:=xc.c2;have d3:=xc.c3;have fz:=xc.fz;have za:wb < wr.heap.size:=L0a xc.ltw xc.size;have xi:T=[]->V7 g f w (.returned (.tuple #[.slice (zA hb) f.n f.n,.bool true])) wr:=fun hTe =>
       aB _ true rfl ⟨fun _=>G2.fits_of_shut (H:=H) (by show 0 < f.n;omega) yd.out (fun a=>(bP _).1) (fun a ha hz=>(ym.out a ha hz).elim (fun h=>by rw [hTe] at h;cases h) id),fun _=>rfl⟩ xf
      have xm:=(show Hid _ from xi);clear xi;rcases xc.own.2 with ⟨hv,h0⟩ | ⟨gb,ya,zd,hv,zn,xy,xs,zc,yv,xu⟩
      ·obtain rfl:T=[]:=List.length_eq_zero_iff.1 h0
       rw[hv] at d3;clear hv h0;go_wp2_with fail;go_ret2;exact xm.out R6
      ·clear zd xy yv xu
       rcases List.eq_nil_or_concat T with rfl | ⟨T0,t,rfl⟩
       ·rw [hv] at d3
        simp only[List.length_nil] at d3;clear hv;go_wp2_with fail;go_ret2;exact xm.out R6
       ·have yh:(T0.concat t).length=T0.length+1:=by simp
        rw[yh] at hv ye xs;have xe:=xc.own;rw[hv,yh] at xe;have zh:wr.cell? ⟨gb,T0.length,none⟩=some (J (t:Int)):=by
         have:=xe.cells (g:=gb) rfl T0.length (J (t:Int)) (by simp [oW]);rw[Go.WideShapes.add_plain,Nat.zero_add] at this;exact this
        have xl:wr.ownsRow (w.heap.size+4) 3 1 (.slice (zA gb) T0.length ya) T0.length (oW T0):=ownsRow_pop (last:=[J (t:Int)]) (by simp [oW]) (by simpa [oW] using xe);rw[hv] at d3;have yz:gb < wr.heap.size:=(xe.lt gb rfl).2;have yb:T0.length<=59:=by omega
        obtain⟨ze,yx⟩:=xo.2 t R6;have yn:O2 (wr.setCell ⟨wb,3,none⟩ (.slice (zA gb) T0.length ya)) g f wb hb (w.heap.size+4) H T0 (.slice (zA gb) T0.length ya):=by
         have zl:=xc.ne;refine⟨xc.ne,xc.ltw,xc.lth,by simpa using xc.size,?_,?_,?_,?_,?_,xc.row.setOther (by exact xc.ne.symm) _,ownsRow_setCell_below xl (a:=⟨wb,3,none⟩) xc.ltw _⟩
         ·have:=xc.c0;go_light;go_simp
         ·have:=xc.c1;go_light;go_simp
         ·go_light;go_simp
         ·go_light;go_simp
         ·go_light;go_simp
        have xb:L0d w (wr.setCell ⟨wb,3,none⟩ (.slice (zA gb) T0.length ya)):=xf.setCell yj _;have xz:Inv (B6 g f) H T0:=⟨xo.1,fun x hx=>xo.2 x (by simp [hx])⟩;have xh:=rN w.heap.size g f wb hb (w.heap.size+4) H T0 _ t _ yn R5 yj yc ((hg.mono hB).below xb) ((hf.mono hB).below xb) hgood (ht.below hB0 (xb.mono hB)) yb ze xz yx
        have zb:=(show Hid _ from xh);clear xh;clear hv yh xe xl yn;go_wp2_with fail;refine Calls.mono zb.out ?_;rintro e w3 ⟨ok,H',T',yr,rfl,yw,xk⟩;have xw:L0d w w3:=xb.trans yw;have yf:rA g f wb hb (w.heap.size+4) w3 (gk - 1) ok:=by
         rcases xk with ⟨rfl,yi⟩ | ⟨rfl,ys,yq,xx,yu⟩
         ·exact L4a ⟨rfl,yi⟩
         ·refine L4b ⟨rfl,H',T',yr,ys,yq,by have:=xx.2.2.2;omega,by omega,by rw [xx.1 0 (by rw [yd.out];omega)];exact yd.out,fun a ha hz=>?_⟩
          rcases xx.2.2.1 a ha hz with hz0 | hm
          ·rcases ym.out a ha hz0 with hm | hm
           ·by_cases e:a=t
            ·subst e;exact L4b yu
            ·exact L4a (xx.2.1 a (by simpa [e] using hm))
           ·exact L4b (hm.ext (bP _).1 hz0 xx.1)
          ·exact L4a hm
        clear xk;go_wp2_with fail;go_roundg (gk - 1)
        case measure=>go_light;omega
        case rel=>exact ⟨ok,rfl,yf,xw⟩
 ·have xn:(((((w.alloc (Obj.cells #[.slice g.a g.n g.c] 41)).alloc (Obj.cells #[J f.p,J f.l,.slice f.a f.n f.c] 163)).alloc (Obj.cells #[.slice g.a g.n g.c,.slice f.a f.n f.c,.slice (some { block:=(w.heap.size+1+1+1),off:=0 }) f.n f.n,zD] 249)).alloc (Obj.cells (madeCells #[Value.int IntKind.i64 0] f.n) 3)).drew).rowIs (w.heap.size+1+1+1) 3 f.n (fun _=>J 0):=by
   have:=(World.rowIs_made (((w.alloc (Obj.cells #[.slice g.a g.n g.c] 41)).alloc (Obj.cells #[J f.p,J f.l,.slice f.a f.n f.c] 163)).alloc (Obj.cells #[.slice g.a g.n g.c,.slice f.a f.n f.c,.slice (some { block:=(w.heap.size+1+1+1),off:=0 }) f.n f.n,zD] 249)) (J 0) f.n 3).drew;simpa using this
  generalize hqW1:(((((w.alloc (Obj.cells #[.slice g.a g.n g.c] 41)).alloc (Obj.cells #[J f.p,J f.l,.slice f.a f.n f.c] 163)).alloc (Obj.cells #[.slice g.a g.n g.c,.slice f.a f.n f.c,.slice (some { block:=(w.heap.size+1+1+1),off:=0 }) f.n f.n,zD] 249)).alloc (Obj.cells (madeCells #[Value.int IntKind.i64 0] f.n) 3)).drew)=W1 at *
  have d0:W1.cell? ⟨(w.heap.size+1+1),0,none⟩=some (.slice g.a g.n g.c):=by subst hqW1;go_simp
  have d1:W1.cell? ⟨(w.heap.size+1+1),1,none⟩=some (.slice f.a f.n f.c):=by subst hqW1;go_simp
  have d2:W1.cell? ⟨(w.heap.size+1+1),2,none⟩=some (.slice (some ⟨(w.heap.size+1+1+1),0,none⟩) f.n f.n):=by subst hqW1;go_simp
  have d3:W1.cell? ⟨(w.heap.size+1+1),3,none⟩=some zD:=by subst hqW1;go_simp
  have dz:W1.frozen? ⟨(w.heap.size+1+1),3,none⟩=false:=by subst hqW1;go_simp
  have zj:W1.heap.size=w.heap.size+4:=by subst hqW1;simp
  have xb:L0d w W1:=by subst hqW1;repeat (first | exact L3b _ _ | refine L3c ?_ | refine L3a ?_ Q1 _)
  clear hqW1;obtain⟨wb,yg⟩:∃wb,wb=(w.heap.size+1+1):=⟨_,rfl⟩
  obtain⟨hb,yk⟩:∃hb,hb=(w.heap.size+1+1+1):=⟨_,rfl⟩
  have xg:O2 W1 g f wb hb (w.heap.size+4) (fun _=>0) [] zD:=by
   rw[yg,yk];exact⟨by omega,by omega,by omega,by omega,d0,d1,d2,d3,dz,xn,World.ownsRow_nil _ _ _ _⟩
  rw[<- yk,<- yg];have yj:w.heap.size<=wb:=by omega
  have yc:w.heap.size<=hb:=by omega
  clear xn d0 d1 d2 d3 dz yg yk zg;have d2:=xg.c2;go_wp2
  clear d2;go_loopw [22] (fun v wr=>∃i:Nat,i<=f.n/\v=J i/\O2 wr g f wb hb (w.heap.size+4) (fun j=>if j < i then -1 else 0) [] zD/\L0d w wr) (fun v _=>f.n - (intOf v).toNat)
  case atStart=>exact ⟨0,L4c _,rfl,xg,xb⟩
  case round =>
   obtain⟨i,hi,rfl,xa,xq⟩:=hrel;have zi:=xa.size;by_cases hlt:i < f.n
   ·have d2:=xa.c2
    have kh:=xa.row.cell hlt;have kf:=xa.row.frozen i;have yy:=xa.ne;go_wp2
    go_roundw
    case rel =>
     go_light
     refine⟨i+1,by omega,by go_num,⟨xa.ne,xa.ltw,xa.lth,by simpa using xa.size,?_,?_,?_,?_,?_,(xa.row.set i (J (-1))).congr (fun j _=>?_),World.ownsRow_nil _ _ _ _⟩,xq.setCell yc _⟩
     ·have:=xa.c0;go_simp
     ·have:=xa.c1;go_simp
     ·go_simp
     ·have:=xa.c3;go_simp
     ·have:=xa.fz;go_simp
     ·by_cases e:j=i
      ·subst e;rw [if_pos rfl,if_pos R5]
      ·rw [if_neg e]
       by_cases h1:j < i
       ·rw [if_pos h1,if_pos R5]
       ·rw [if_neg h1,if_neg R5]
    case measure=>simp [intOf];omega
   ·have hH:∀j,j < f.n->(if j < i then (-1:Int) else 0) = -1:=fun j hj=>by rw [if_pos R5]
    have xp:O2 wr g f wb hb (w.heap.size+4) (fun _ => -1) [] zD :=
     ⟨xa.ne,xa.ltw,xa.lth,xa.size,xa.c0,xa.c1,xa.c2,xa.c3,xa.fz,xa.row.congr (fun j hj=>by rw [hH j hj]),xa.own⟩
    clear xa hH;go_wp2_with fail;have xd:=eA g f wb hb (w.heap.size+4) (fun _ => -1) [] zD 0 0 wr xp R6;rw[show ((0:Nat):Int)=0 from rfl] at xd;refine xd.mono ?_;clear xd;rintro e w2 ⟨H,T,tv,ok,rfl,yp,xv,xj⟩;have xt:L0d w w2:=xq.trans (xj.below R5 (aG xp yj yc));obtain⟨rfl,rfl,rfl⟩:ok=true/\H=(fun i=>if i=0 then 0 else -1)/\T=[0]:=by
     rcases xv with ⟨_,h⟩ | ⟨_,_,h,_⟩ | ⟨_,_,h,_⟩ | ⟨h1,_,_,h2,h3⟩
     ·omega
     ·exact absurd rfl h
     ·exact absurd rfl h
     ·exact ⟨h1,h2,h3⟩
    have yt:rA g f wb hb (w.heap.size+4) w2 f.n true:=by
     refine L4b ⟨rfl,_,_,tv,yp,⟨fun a ha=>?_,fun t htm=>?_⟩,?_,L1c _,by simp,fun a ha hz=>?_⟩
     ·by_cases e:a=0
      ·subst e;simp only [if_pos];exact ⟨by omega,by omega,fun _=>(B6 g f).reach_first⟩
      ·simp only [if_neg e];exact ⟨by omega,by omega,fun h=>by omega⟩
     ·obtain rfl:t=0:=by simpa using htm
      exact⟨zf,by simp⟩
     ·have h1:=kK (n:=f.n) (H:=fun _ => -1) (c:=0) (v:=0) R5 R6 R5
      have h2:left f.n (fun _ => -1)<=f.n:=by unfold left;exact L5a (List.length_filter_le _ _) R6
      simp only[List.length_cons,List.length_nil];omega
     ·by_cases e:a=0
      ·subst e;exact L4a R6
      ·simp only [if_neg e] at hz;omega
    clear xv yp xj xp xq xg xb;go_wp2_with fail;go_loopg [8] f.n (fun k v wx=>∃ok:Bool,v=.bool ok/\rA g f wb hb (w.heap.size+4) wx k ok/\L0d w wx)
    case atStart=>exact ⟨true,rfl,yt,xt⟩
    case round =>
     obtain⟨ok,rfl,xr,xf⟩:=hrel;rcases xr with ⟨rfl,yi⟩ | ⟨rfl,H,T,tv,xc,xo,ye,zm,yl,yo⟩
     ·go_wp2_with fail
      go_ret2;exact aB _ false rfl ⟨fun h=>(by cases h),fun h=>absurd h yi⟩ xf
     ·have yd:=(show Hid _ from yl);clear yl
      have ym:=(show Hid _ from yo);clear yo;have d2:=xc.c2;have d3:=xc.c3;have fz:=xc.fz;have za:wb < wr.heap.size:=L0a xc.ltw xc.size;have xi:T=[]->V7 g f w (.returned (.tuple #[.slice (zA hb) f.n f.n,.bool true])) wr:=fun hTe =>
       aB _ true rfl ⟨fun _=>G2.fits_of_shut (H:=H) (by show 0 < f.n;omega) yd.out (fun a=>(bP _).1) (fun a ha hz=>(ym.out a ha hz).elim (fun h=>by rw [hTe] at h;cases h) id),fun _=>rfl⟩ xf
      have xm:=(show Hid _ from xi);clear xi;rcases xc.own.2 with ⟨hv,h0⟩ | ⟨gb,ya,zd,hv,zn,xy,xs,zc,yv,xu⟩
      ·obtain rfl:T=[]:=List.length_eq_zero_iff.1 h0
       rw[hv] at d3;clear hv h0;go_wp2_with fail;go_ret2;exact xm.out R6
      ·clear zd xy yv xu
       rcases List.eq_nil_or_concat T with rfl | ⟨T0,t,rfl⟩
       ·rw [hv] at d3
        simp only[List.length_nil] at d3;clear hv;go_wp2_with fail;go_ret2;exact xm.out R6
       ·have yh:(T0.concat t).length=T0.length+1:=by simp
        rw[yh] at hv ye xs;have xe:=xc.own;rw[hv,yh] at xe;have zh:wr.cell? ⟨gb,T0.length,none⟩=some (J (t:Int)):=by
         have:=xe.cells (g:=gb) rfl T0.length (J (t:Int)) (by simp [oW]);rw[Go.WideShapes.add_plain,Nat.zero_add] at this;exact this
        have xl:wr.ownsRow (w.heap.size+4) 3 1 (.slice (zA gb) T0.length ya) T0.length (oW T0):=ownsRow_pop (last:=[J (t:Int)]) (by simp [oW]) (by simpa [oW] using xe);rw[hv] at d3;have yz:gb < wr.heap.size:=(xe.lt gb rfl).2;have yb:T0.length<=59:=by omega
        obtain⟨ze,yx⟩:=xo.2 t R6;have yn:O2 (wr.setCell ⟨wb,3,none⟩ (.slice (zA gb) T0.length ya)) g f wb hb (w.heap.size+4) H T0 (.slice (zA gb) T0.length ya):=by
         have zl:=xc.ne;refine⟨xc.ne,xc.ltw,xc.lth,by simpa using xc.size,?_,?_,?_,?_,?_,xc.row.setOther (by exact xc.ne.symm) _,ownsRow_setCell_below xl (a:=⟨wb,3,none⟩) xc.ltw _⟩
         ·have:=xc.c0;go_light;go_simp
         ·have:=xc.c1;go_light;go_simp
         ·go_light;go_simp
         ·go_light;go_simp
         ·go_light;go_simp
        have xb:L0d w (wr.setCell ⟨wb,3,none⟩ (.slice (zA gb) T0.length ya)):=xf.setCell yj _;have xz:Inv (B6 g f) H T0:=⟨xo.1,fun x hx=>xo.2 x (by simp [hx])⟩;have xh:=rN w.heap.size g f wb hb (w.heap.size+4) H T0 _ t _ yn R5 yj yc ((hg.mono hB).below xb) ((hf.mono hB).below xb) hgood (ht.below hB0 (xb.mono hB)) yb ze xz yx
        have zb:=(show Hid _ from xh);clear xh;clear hv yh xe xl yn;go_wp2_with fail;refine Calls.mono zb.out ?_;rintro e w3 ⟨ok,H',T',yr,rfl,yw,xk⟩;have xw:L0d w w3:=xb.trans yw;have yf:rA g f wb hb (w.heap.size+4) w3 (gk - 1) ok:=by
         rcases xk with ⟨rfl,yi⟩ | ⟨rfl,ys,yq,xx,yu⟩
         ·exact L4a ⟨rfl,yi⟩
         ·refine L4b ⟨rfl,H',T',yr,ys,yq,by have:=xx.2.2.2;omega,by omega,by rw [xx.1 0 (by rw [yd.out];omega)];exact yd.out,fun a ha hz=>?_⟩
          rcases xx.2.2.1 a ha hz with hz0 | hm
          ·rcases ym.out a ha hz0 with hm | hm
           ·by_cases e:a=t
            ·subst e;exact L4b yu
            ·exact L4a (xx.2.1 a (by simpa [e] using hm))
           ·exact L4b (hm.ext (bP _).1 hz0 xx.1)
          ·exact L4a hm
        clear xk;go_wp2_with fail;go_roundg (gk - 1)
        case measure=>go_light;omega
        case rel=>exact ⟨ok,rfl,yf,xw⟩
end Go.Proofs.YtbkmgoffiigdbaaGreatDoor
