import Derived.Test.YtbkmgoffiigdbaaGreatDoorYDa
namespace Go.Proofs.YtbkmgoffiigdbaaGreatDoor
open Go.RowKit Go.Sort Go.Proofs.Tryz
set_option maxHeartbeats 4000000
set_option maxRecDepth 100000
theorem jT {P:A3} {w:World} {yb:Nat} {Y:PlR} (h:Sep P w) (hp:P (0,0)=H9 yb Y) (hL:J0 P Y) (hle:∀j,(Y.l j).length<=1000000000) :
  Calls prog 38 #[.pointer (some ⟨yb,1,none⟩)] w fun e w'=>e=.returned (.bool true)/\L0d w w':=by
 have xu:H7 w yb Y:=by have:=h.F (0,0);rw [hp] at this;exact this
 have xf:=xu.me;have xw:=hid xu;have HL:=hid hL;have xv:=hid h;have xm:=hid hle;have xx:Hid (L0d w w):=hid (L3b _ _);clear xu hL h hle hp;go_enter func38,ntmps38;go_wp2_with fail;go_loopw [3] (fun vi wr=>∃i:Nat,i<=(Y.l 1).length/\vi=.int .i64 i/\L0d w wr) (fun vi _=>(Y.l 1).length - (intOf vi).toNat)
 case atStart=>exact ⟨0,L4c _,rfl,xx.out⟩
 case round =>
  obtain⟨i,hi,rfl,xc⟩:=hrel;have xh:=hid xc;have xp:=xm.out 1;obtain⟨la,lc,f0,hf⟩:=xw.out.list (j:=1) R3 R3;have g0:=keep xc xf f0;by_cases hlt:i < (Y.l 1).length
  ·obtain ⟨nb,xi⟩:∃nb,(Y.l 1)[i]?=some nb:=⟨_,L1b hlt⟩
   obtain⟨ab,rfl,xd,f1⟩:=hf i nb xi;obtain⟨vs,ya,hE⟩:=HL.out.entA xv.out xi;have HE:=hid hE;clear hE;have g1:=keep xc xd f1;have xs:(i:Int) < ((Y.l 1).length:Int):=by omega
   have xz:IntKind.i64.wrap (-7070 - (i:Int)) = -7070 - (i:Int):=Go.IntWalk.i64_in _ (by have:=xm.out 1;omega);clear xc hf;go_wp2_with fail;go_loopw [4] (fun vi wr=>∃k:Nat,k<=4/\vi=.int .i64 k/\L0d w wr) (fun vi _=>4 - (intOf vi).toNat)
   case atStart=>exact ⟨0,by omega,rfl,xh.out⟩
   case round =>
    obtain⟨k,hk,rfl,xb⟩:=hrel;have xj:=hid xb;have g2:=keep xb xf f0;have g3:=keep xb xd f1;by_cases hlk:k < 4
    ·obtain ⟨p,hp⟩:∃p,vs[k]?=some p:=⟨_,L1b R4⟩
     obtain⟨f2,xe,pa,pc,xr,xq⟩:=HE.out.get hp;rw[xr] at f2;have yc:=HE.out.small hp;have xt:(k:Int) < 4:=by omega
     clear xb;go_wp2_with fail;go_loopw [5] (fun vi wr=>∃j:Nat,j<=p.2/\vi=.int .i64 j/\L0d w wr) (fun vi _=>p.2 - (intOf vi).toNat)
     case atStart=>exact ⟨0,by omega,rfl,xj.out⟩
     case round =>
      obtain⟨j,hj,rfl,xa⟩:=hrel;have xk:=hid xa;have g4:=keep xa xf f0;have g5:=keep xa xd f1;have g6:=keep xa xe f2;by_cases hlj:j < p.2
      ·obtain ⟨b,rfl,xn,xg⟩:=xq R4
       have xo:(j:Int) < (p.2:Int):=by omega
       have z0:=keep xa xn (xg (j) R4)
       try simp only at z0
       clear xa xg;go_wp2_with fail;go_roundw
       case rel=>exact ⟨j+1,by omega,by go_num,by repeat (first | exact xk.out | refine L3c ?_ | refine L3a ?_ (by first | (simp;done) | (simp;omega) | omega) _)⟩
       case measure=>simp [intOf];omega
      ·obtain rfl:j=p.2:=by omega
       have xl:¬(p.2:Int) < (p.2:Int):=by omega
       clear xa;go_wp2_with fail;go_roundw
       case rel=>exact ⟨k+1,by omega,by go_num,xk.out⟩
       case measure=>simp [intOf];omega
    ·obtain rfl:k=4:=by omega
     have xl:¬(4:Int) < 4:=by decide
     clear xb;go_wp2_with fail;go_roundw
     case rel=>exact ⟨i+1,by omega,by go_num,xj.out⟩
     case measure=>simp [intOf];omega
  ·obtain rfl:i=(Y.l 1).length:=by omega
   have xl:¬((Y.l 1).length:Int) < ((Y.l 1).length:Int):=by omega
   clear xc hf;go_wp2_with fail;have xy:=hid xh.out;clear xh g0 f0;go_loopw [6] (fun vi wr=>∃i:Nat,i<=(Y.l 3).length/\vi=.int .i64 i/\L0d w wr) (fun vi _=>(Y.l 3).length - (intOf vi).toNat)
   case atStart=>exact ⟨0,L4c _,rfl,xy.out⟩
   case round =>
    obtain⟨i,hi,rfl,xc⟩:=hrel;have xh:=hid xc;have xp:=xm.out 3;obtain⟨la,lc,f0,hf⟩:=xw.out.list (j:=3) R3 R3;have g0:=keep xc xf f0;by_cases hlt:i < (Y.l 3).length
    ·obtain ⟨nb,xi⟩:∃nb,(Y.l 3)[i]?=some nb:=⟨_,L1b hlt⟩
     obtain⟨ab,rfl,xd,f1⟩:=hf i nb xi;obtain⟨vs,ya,hE⟩:=HL.out.entC xv.out xi;have HE:=hid hE;clear hE;have g1:=keep xc xd f1;have xs:(i:Int) < ((Y.l 3).length:Int):=by omega
     have xz:IntKind.i64.wrap (-7070 - (i:Int)) = -7070 - (i:Int):=Go.IntWalk.i64_in _ (by have:=xm.out 3;omega);clear xc hf;go_wp2_with fail;go_loopw [7] (fun vi wr=>∃k:Nat,k<=4/\vi=.int .i64 k/\L0d w wr) (fun vi _=>4 - (intOf vi).toNat)
     case atStart=>exact ⟨0,by omega,rfl,xh.out⟩
     case round =>
      obtain⟨k,hk,rfl,xb⟩:=hrel;have xj:=hid xb;have g2:=keep xb xf f0;have g3:=keep xb xd f1;by_cases hlk:k < 4
      ·obtain ⟨p,hp⟩:∃p,vs[k]?=some p:=⟨_,L1b R4⟩
       obtain⟨f2,xe,pa,pc,xr,xq⟩:=HE.out.get hp;rw[xr] at f2;have yc:=HE.out.small hp;have xt:(k:Int) < 4:=by omega
       clear xb;go_wp2_with fail;go_loopw [8] (fun vi wr=>∃j:Nat,j<=p.2/\vi=.int .i64 j/\L0d w wr) (fun vi _=>p.2 - (intOf vi).toNat)
       case atStart=>exact ⟨0,by omega,rfl,xj.out⟩
       case round =>
        obtain⟨j,hj,rfl,xa⟩:=hrel;have xk:=hid xa;have g4:=keep xa xf f0;have g5:=keep xa xd f1;have g6:=keep xa xe f2;by_cases hlj:j < p.2
        ·obtain ⟨b,rfl,xn,xg⟩:=xq R4
         have xo:(j:Int) < (p.2:Int):=by omega
         have z0:=keep xa xn (xg (j*2) R4);rw[show dG i (j*2)=.int .u8 9 by unfold dG;rw [if_pos R4]] at z0;have z1:=keep xa xn (xg (j*2+1) R4);rw[show dG i (j*2+1)=.int .i64 (-7070 - (i:Int)) by unfold dG;rw [if_neg R4]] at z1;clear xa xg;go_wp2_with fail;go_roundw
         case rel=>exact ⟨j+1,by omega,by go_num,by repeat (first | exact xk.out | refine L3c ?_ | refine L3a ?_ (by first | (simp;done) | (simp;omega) | omega) _)⟩
         case measure=>simp [intOf];omega
        ·obtain rfl:j=p.2:=by omega
         have xl:¬(p.2:Int) < (p.2:Int):=by omega
         clear xa;go_wp2_with fail;go_roundw
         case rel=>exact ⟨k+1,by omega,by go_num,xk.out⟩
         case measure=>simp [intOf];omega
      ·obtain rfl:k=4:=by omega
       have xl:¬(4:Int) < 4:=by decide
       clear xb;go_wp2_with fail;go_roundw
       case rel=>exact ⟨i+1,by omega,by go_num,xj.out⟩
       case measure=>simp [intOf];omega
    ·obtain rfl:i=(Y.l 3).length:=by omega
     have xl:¬((Y.l 3).length:Int) < ((Y.l 3).length:Int):=by omega
     clear xc hf;go_wp2_with fail;go_ret;exact⟨rfl,xh.out⟩
section
variable {w:World} {yb:Nat}
theorem nA {c:Nat} {a:Option Addr} (_hyb:yb < w.heap.size) (hc:w.cell? ⟨yb,2,none⟩=some (.slice a 0 c)) :
  Calls prog 37 #[.pointer (some ⟨yb,1,none⟩)] w fun e w'=>e=.returned (.bool true)/\w'=w:=by
 go_enter func37,ntmps37;go_wp2_with fail;go_loopw [3] (fun vi wr=>vi=.int .i64 0/\wr=w) (fun _ _=>0)
 case atStart=>exact ⟨rfl,rfl⟩
 case round =>
  obtain⟨rfl,hw⟩:=hrel;rw[hw];clear hw;go_wp2_with fail;go_loopw [5] (fun vi wr=>∃d:Nat,d<=4/\vi=.int .i64 ((d:Int) - 1)/\wr=w) (fun vi _=>(intOf vi+1).toNat)
  case atStart=>exact ⟨4,by omega,rfl,rfl⟩
  case round =>
   obtain⟨d,hd,rfl,hw⟩:=hrel;rw[hw];clear hw;by_cases h0:d=0
   ·subst h0
    go_wp2_with fail;go_ret;exact⟨rfl,rfl⟩
   ·have xa:(0:Int)<=(d:Int) - 1:=by omega
    go_wp2_with fail;go_loopw [6] (fun vi wr=>vi=.int .i64 0/\wr=w) (fun _ _=>0)
    case atStart=>exact ⟨rfl,rfl⟩
    case round =>
     obtain⟨rfl,hw⟩:=hrel;rw[hw];clear hw;go_wp2_with fail;go_loopw [7] (fun vi wr=>vi=.int .i64 0/\wr=w) (fun _ _=>0)
     case atStart=>exact ⟨rfl,rfl⟩
     case round =>
      obtain⟨rfl,hw⟩:=hrel;rw[hw];clear hw;go_wp2_with fail;go_roundw
      case rel=>exact ⟨d - 1,by omega,by go_num,by first | rfl | trivial⟩
      case measure=>simp [intOf];omega
theorem yO {P:A3} {Y:PlR} (h:Sep P w) (hp:P (0,0)=H9 yb Y) (hL:J0 P Y) (hle:∀j,(Y.l j).length<=1000000000) :
  Calls prog 12 #[.pointer (some ⟨yb,1,none⟩)] w fun e w'=>e=.returned (.bool true)/\L0d w w':=by
 have xk:H7 w yb Y:=by have:=h.F (0,0);rw [hp] at this;exact this
 have xg:=xk.me;have xz:=hid xk;have HL:=hid hL;have xy:=hid h;have xo:=hid hle;have yk:Hid (L0d w w):=hid (L3b _ _);have yi:Hid (∀U,L0d w U->Calls prog 37 #[.pointer (some ⟨yb,1,none⟩)] U fun e w'=>e=.returned (.bool true)/\w'=U):=hid fun U hU=>by
  have hr:=xk.row 2 R3 R3;rw[hL.1] at hr;obtain⟨a,c,hv,_⟩:=B4 hr;have hc:=xk.c 2 R3 R3;rw[hv] at hc;exact nA (L0a xg hU.size) (keep hU xg hc)
 have yd:Hid (∀U,L0d w U->Calls prog 38 #[.pointer (some ⟨yb,1,none⟩)] U fun e w'=>e=.returned (.bool true)/\L0d U w'):=hid fun U hU=>jT (h.below hU) hp hL hle
 clear xk hL h hle hp;go_enter func12,ntmps12;go_wp2_with fail;go_loopw [3] (fun vi wr=>∃i:Nat,i<=(Y.l 4).length/\vi=.int .i64 i/\L0d w wr) (fun vi _=>(Y.l 4).length - (intOf vi).toNat)
 case atStart=>exact ⟨0,L4c _,rfl,yk.out⟩
 case round =>
  obtain⟨i,hi,rfl,xc⟩:=hrel;have xf:=hid xc;have xr:=xo.out 4;obtain⟨la,lc,f0,hf⟩:=xz.out.list (j:=4) R3 R3;have g0:=keep xc xg f0;by_cases hlt:i < (Y.l 4).length
  ·obtain ⟨nb,xl⟩:∃nb,(Y.l 4)[i]?=some nb:=⟨_,L1b hlt⟩
   obtain⟨ab,rfl,xh,f1⟩:=hf i nb xl;obtain⟨vs,yh,hE⟩:=HL.out.entD xy.out xl;have HE:=hid hE;clear hE;have g1:=keep xc xh f1;have xq:(i:Int) < ((Y.l 4).length:Int):=by omega
   have yg:IntKind.i64.wrap (-7070 - (i:Int)) = -7070 - (i:Int):=Go.IntWalk.i64_in _ (by have:=xo.out 4;omega);clear xc hf;go_wp2_with fail;go_loopw [4] (fun vi wr=>∃k:Nat,k<=4/\vi=.int .i64 k/\L0d w wr) (fun vi _=>4 - (intOf vi).toNat)
   case atStart=>exact ⟨0,by omega,rfl,xf.out⟩
   case round =>
    obtain⟨k,hk,rfl,xb⟩:=hrel;have xm:=hid xb;have g2:=keep xb xg f0;have g3:=keep xb xh f1;by_cases hlk:k < 4
    ·obtain ⟨p,hp⟩:∃p,vs[k]?=some p:=⟨_,L1b R4⟩
     obtain⟨f2,xi,pa,pc,xt,xv⟩:=HE.out.get hp;rw[xt] at f2;have yj:=HE.out.small hp;have xx:(k:Int) < 4:=by omega
     clear xb;go_wp2_with fail;go_loopw [5] (fun vi wr=>∃j:Nat,j<=p.2/\vi=.int .i64 j/\L0d w wr) (fun vi _=>p.2 - (intOf vi).toNat)
     case atStart=>exact ⟨0,by omega,rfl,xm.out⟩
     case round =>
      obtain⟨j,hj,rfl,xa⟩:=hrel;have xn:=hid xa;have g4:=keep xa xg f0;have g5:=keep xa xh f1;have g6:=keep xa xi f2;by_cases hlj:j < p.2
      ·obtain ⟨b,rfl,xe,xd⟩:=xv R4
       have xu:(j:Int) < (p.2:Int):=by omega
       have z0:=keep xa xe (xd (j*4) R4);rw[show zfr i (j*4)=.int .i64 (-7070 - (i:Int)) by unfold zfr;rw [if_pos R4]] at z0;have z1:=keep xa xe (xd (j*4+1) R4);rw[show zfr i (j*4+1)=.int .i64 0 by unfold zfr;rw [if_neg R4,if_pos R4]] at z1;have z2:=keep xa xe (xd (j*4+2) R4);rw[show zfr i (j*4+2)=.slice none 0 0 by unfold zfr;rw [if_neg R4,if_neg R4]] at z2
       have z3:=keep xa xe (xd (j*4+3) R4);rw[show zfr i (j*4+3)=.slice none 0 0 by unfold zfr;rw [if_neg R4,if_neg R4]] at z3;have xp:w.heap.size<=wr.heap.size:=xa.size;have ym:b < wr.heap.size:=L0a xe xa.size;have xs:b < wr.heap.size+1:=by omega
       clear xa xd;go_wp2_with fail;go_roundw
       case rel=>exact ⟨j+1,by omega,by go_num,by repeat (first | exact xn.out | refine L3c ?_ | refine L3a ?_ (by first | (simp;done) | (simp;omega) | omega) _)⟩
       case measure=>simp [intOf];omega
      ·obtain rfl:j=p.2:=by omega
       have xj:¬(p.2:Int) < (p.2:Int):=by omega
       clear xa;go_wp2_with fail;go_roundw
       case rel=>exact ⟨k+1,by omega,by go_num,xn.out⟩
       case measure=>simp [intOf];omega
    ·obtain rfl:k=4:=by omega
     have xj:¬(4:Int) < 4:=by decide
     clear xb;go_wp2_with fail;go_roundw
     case rel=>exact ⟨i+1,by omega,by go_num,xm.out⟩
     case measure=>simp [intOf];omega
  ·obtain rfl:i=(Y.l 4).length:=by omega
   have xj:¬((Y.l 4).length:Int) < ((Y.l 4).length:Int):=by omega
   clear xc hf;go_wp2_with fail;have ye:=hid xf.out;clear xf g0 f0;go_loopw [7] (fun vi wr=>∃i:Nat,i<=(Y.l 5).length/\vi=.int .i64 i/\L0d w wr) (fun vi _=>(Y.l 5).length - (intOf vi).toNat)
   case atStart=>exact ⟨0,L4c _,rfl,ye.out⟩
   case round =>
    obtain⟨i,hi,rfl,xc⟩:=hrel;have xf:=hid xc;have xr:=xo.out 5;obtain⟨la,lc,f0,hf⟩:=xz.out.list (j:=5) R3 R3;have g0:=keep xc xg f0;by_cases hlt:i < (Y.l 5).length
    ·obtain ⟨nb,xl⟩:∃nb,(Y.l 5)[i]?=some nb:=⟨_,L1b hlt⟩
     obtain⟨ab,rfl,xh,f1⟩:=hf i nb xl;obtain⟨vs,fb,yh,hE,xw⟩:=HL.out.entE xy.out xl;have HE:=hid hE;have yc:=(L2b.1 xw).1;have ff:w.cell? ⟨fb,1,none⟩=some (.int .i64 (-7070 - (i:Int))):=by simp [World.cell?,xw]
     clear hE xw;have g1:=keep xc xh f1;have xq:(i:Int) < ((Y.l 5).length:Int):=by omega
     have yg:IntKind.i64.wrap (-7070 - (i:Int)) = -7070 - (i:Int):=Go.IntWalk.i64_in _ (by have:=xo.out 5;omega);clear xc hf;go_wp2_with fail;go_loopw [8] (fun vi wr=>∃k:Nat,k<=4/\vi=.int .i64 k/\L0d w wr) (fun vi _=>4 - (intOf vi).toNat)
     case atStart=>exact ⟨0,by omega,rfl,xf.out⟩
     case round =>
      obtain⟨k,hk,rfl,xb⟩:=hrel;have xm:=hid xb;have g2:=keep xb xg f0;have g3:=keep xb xh f1;by_cases hlk:k < 4
      ·obtain ⟨p,hp⟩:∃p,vs[k]?=some p:=⟨_,L1b R4⟩
       obtain⟨f2,xi,pa,pc,xt,xv⟩:=HE.out.get hp;rw[xt] at f2;have yj:=HE.out.small hp;have xx:(k:Int) < 4:=by omega
       clear xb;go_wp2_with fail;go_loopw [9] (fun vi wr=>∃j:Nat,j<=p.2/\vi=.int .i64 j/\L0d w wr) (fun vi _=>p.2 - (intOf vi).toNat)
       case atStart=>exact ⟨0,by omega,rfl,xm.out⟩
       case round =>
        obtain⟨j,hj,rfl,xa⟩:=hrel;have xn:=hid xa;have g4:=keep xa xg f0;have g5:=keep xa xh f1;have g6:=keep xa xi f2;by_cases hlj:j < p.2
        ·obtain ⟨b,rfl,xe,xd⟩:=xv R4
         have xu:(j:Int) < (p.2:Int):=by omega
         have z0:=keep xa xe (xd (j*2) R4);rw[show zob fb (j*2)=.int .u8 9 by unfold zob;rw [if_pos R4]] at z0;have z1:=keep xa xe (xd (j*2+1) R4);rw[show zob fb (j*2+1)=.slice (some ⟨fb,0,none⟩) 1 1 by unfold zob;rw [if_neg R4]] at z1;have zz:=keep xa yc ff;have yn:fb < wr.heap.size:=L0a yc xa.size;have yl:fb < wr.heap.size+1:=by omega
         have xp:w.heap.size<=wr.heap.size:=xa.size;have ym:b < wr.heap.size:=L0a xe xa.size;have xs:b < wr.heap.size+1:=by omega
         clear xa xd;go_wp2_with fail;go_roundw
         case rel=>exact ⟨j+1,by omega,by go_num,by repeat (first | exact xn.out | refine L3c ?_ | refine L3a ?_ (by first | (simp;done) | (simp;omega) | omega) _)⟩
         case measure=>simp [intOf];omega
        ·obtain rfl:j=p.2:=by omega
         have xj:¬(p.2:Int) < (p.2:Int):=by omega
         clear xa;go_wp2_with fail;go_roundw
         case rel=>exact ⟨k+1,by omega,by go_num,xn.out⟩
         case measure=>simp [intOf];omega
      ·obtain rfl:k=4:=by omega
       have xj:¬(4:Int) < 4:=by decide
       clear xb;go_wp2_with fail;go_roundw
       case rel=>exact ⟨i+1,by omega,by go_num,xm.out⟩
       case measure=>simp [intOf];omega
    ·obtain rfl:i=(Y.l 5).length:=by omega
     have xj:¬((Y.l 5).length:Int) < ((Y.l 5).length:Int):=by omega
     clear xc hf;go_wp2_with (first | (go_at_call 37;refine (yi.out _ xf.out).mono ?_;rintro e w' ⟨rfl,hw⟩;rw [hw];clear hw w') | (go_at_call 38;refine (yd.out _ xf.out).mono ?_;rintro e w3 ⟨rfl,ya⟩))
     have yf:=hid (xf.out.trans (ya.mono xf.out.size));clear ya;go_wp2_with fail;go_ret;exact⟨rfl,yf.out⟩
end
section
variable {M N yb:Nat} {P:A3} {Y:PlR} {w:World} {w0:L7}
theorem a1G (h:Lw w0 P w yb Y N M) (hM:M<=900000000) (g:PgR) (hg:I5 w.heap.size w g) (hr:gU g) (ht:Tab w) (a b:Int) (la sa:Option Addr) (ln lc sn sc:Nat) :
  Calls prog 11 #[.pointer (some ⟨yb,0,none⟩),.agg #[.int .i64 1,.int .i64 a,.int .i64 b,.slice g.a g.n g.c,.slice la ln lc,.slice sa sn sc]] w fun e w'=>e=.returned (.bool true)/\∃P2 Y2,Lw w0 P2 w' yb Y2 N (M+1):=by
 have HO:Hid (∀U,L0d w U->Calls prog 33 #[.pointer (some ⟨yb,0,none⟩),.agg #[.int .i64 1,.int .i64 a,.int .i64 b,.slice g.a g.n g.c,.slice la ln lc,.slice sa sn sc]] U fun e w'=>e=.returned (.bool true)/\∃P2 Y2,Lw w0 P2 w' yb Y2 N (M+1)):=hid fun U hU=>wU (h.below hU) hM g ((hg.below hU).mono hU.size) hr (ht.held hU.size (hU.block 0 ht.1)) 1 a b la sa ln lc sn sc
 clear h hM hg hr ht;go_enter func11,ntmps11;go_wp2_with (go_at_call 33;refine (HO.out _ P8).mono ?_;rintro e w1 ⟨rfl,P2,Y2,hW⟩;have HW:=hid hW;clear hW)
 go_ret;exact⟨rfl,P2,Y2,HW.out⟩
structure StR where
 k:Int
 a:Int
 b:Int
 g:PgR
 la:Option Addr
 ln:Nat
 lc:Nat
 sa:Option Addr
 sn:Nat
 sc:Nat
def StR.cells (s:StR):List Value:=[.int .i64 s.k,.int .i64 s.a,.int .i64 s.b,.slice s.g.a s.g.n s.g.c,.slice s.la s.ln s.lc,.slice s.sa s.sn s.sc]
structure a2a (w:World) (s:StR):Prop where
 a : -9223372036854775808<=s.a/\s.a<=9223372036854775807
 pg:I5 w.heap.size w s.g
 re:gU s.g
theorem a3T (h:Lw w0 P w yb Y N M) (hM:M<=1000000000) :
  Calls prog 12 #[.pointer (some ⟨yb,1,none⟩)] w fun e w'=>e=.returned (.bool true)/\Lw w0 P w' yb Y N M:=by
 refine (yO h.sep h.p0 h.law fun j=>L5a (h.len j) hM).mono ?_;rintro e w' ⟨rfl,hb⟩;exact⟨rfl,h.below hb⟩
end
def a0W:PlR:=⟨[],.slice none 0 0,fun _=>.slice none 0 0,fun _=>[]⟩
theorem a2R {w V:World} (hB:L0d w V) (hlt:w.heap.size < V.heap.size) (h0:0 < w.heap.size) (hc:∀j,j<=5->V.cell? ⟨w.heap.size,j,none⟩=some (.slice none 0 0)) (hz:∀j,V.frozen? ⟨w.heap.size,j,none⟩=false) :
  Lw ⟨w,fun _=>True⟩ (fun i=>if i=(0,0) then H9 w.heap.size a0W else D7.none) V w.heap.size a0W 0 0:=by
 have hP:H7 V w.heap.size a0W:=⟨hlt,hz,hc 0 R4,World.ownsRow_nil _ _ _ _,(fun e=>by cases e),fun j _ h5=>hc j h5,fun j _ _=>World.ownsRow_nil _ _ _ _,fun j _ _ e=>by cases e⟩;have hb:∀k,R7 w.heap.size a0W k->k=w.heap.size:=fun k hk=>by
  rcases hk with hk | hk | ⟨j,_,_,hk⟩
  ·exact hk
  ·cases hk
  ·cases hk
 refine⟨⟨by omega,fun i=>?_,fun i j k hi hj=>?_,fun i hi=>?_⟩,if_pos rfl,⟨rfl,fun j i nb _ _ hq=>?_⟩,fun i p hp=>?_,fun j=>L1c _,L1c _,⟨hB.os,hB.tape,hB.output,hB.size,fun b hb _=>hB.block b hb⟩,fun i b hi e=>?_⟩
 ·by_cases e:i=(0,0)
  ·rw [if_pos e];exact hP
  ·rw [if_neg e];trivial
 ·by_cases e:i=(0,0)
  ·by_cases e':j=(0,0)
   ·rw [e,e']
   ·rw [if_neg e'] at hj;exact hj.elim
  ·rw [if_neg e] at hi;exact hi.elim
 ·by_cases e:i=(0,0)
  ·rw [if_pos e] at hi
   have:=hb 0 hi;omega
  ·rw [if_neg e] at hi;exact hi.elim
 ·have:([]:List Nat)[i]?=some nb:=hq
  simp at this
 ·have:([]:List (Nat × Nat))[i]?=some p:=hp
  simp at this
 ·by_cases e':i=(0,0)
  ·rw [if_pos e'] at hi
   have:=hb b hi;have e1:b < w.heap.size:=e.1;omega
  ·rw [if_neg e'] at hi;exact hi.elim
def zZ (w:World) (a:Option Addr) (l:List StR):Prop:=0 < l.length->∃b o,a=some ⟨b,o,none⟩/\b < w.heap.size/\∀(i:Nat) (s:StR),l[i]?=some s->∀j u,s.cells[j]?=some u->w.cell? ⟨b,o+i*6+j,none⟩=some u
theorem Lw.kept {w w':World} {P:A3} {yb N M:Nat} {Y:PlR} (h:Lw ⟨w,fun _=>True⟩ P w' yb Y N M):L0d w w' :=
 ⟨h.bel.os,h.bel.tape,h.bel.output,h.bel.size,fun b hb=>h.bel.block b hb trivial⟩
section
variable {U w:World}
theorem zZ.later {a:Option Addr} {l:List StR} (h:zZ w a l) (hB:L0d w U):zZ U a l:=fun h0=>by
 obtain⟨b,o,e,hb,hc⟩:=h h0;exact⟨b,o,e,L0a hb hB.size,fun i s hs j u hu=>keep hB hb (hc i s hs j u hu)⟩
theorem a2a.later {s:StR} (h:a2a w s) (hB:L0d w U):a2a U s:=⟨h.a,(h.pg.below hB).mono hB.size,h.re⟩
end
theorem a0X {w:World} (ht:Tab w) {sa:Option Addr} {sc kb kc:Nat} {l:List StR} {ks:List Int} (hl:zZ w sa l) (hn:l.length<=900000) (hks:ks.length<=100) (hkb:kb < w.heap.size) (hk:∀(j:Nat) (x:Int),ks[j]?=some x->w.cell? ⟨kb,j,none⟩=some (.int .i64 x))
  (hs:∀s,s∈l->s.k∈ks->∀P U Y N M,N<=9999990000->M<=900000000->Lw ⟨w,fun _=>True⟩ P U w.heap.size Y N M->Calls prog 11 #[.pointer (some ⟨w.heap.size,0,none⟩),.agg s.cells.toArray] U fun e w'=>e=.returned (.bool true)/\∃P2 Y2,Lw ⟨w,fun _=>True⟩ P2 w' w.heap.size Y2 (N+10000) (M+100)) :
  Calls prog 8 #[.slice sa l.length sc,.slice (some ⟨kb,0,none⟩) ks.length kc] w fun e w'=>e=.returned (.bool true)/\L0d w w':=by
 have HT:=hid ht;have HL:=hid hl;have HS:=hid hs;have HK:=hid hk;clear hl hs hk ht;go_enter func8,ntmps8;have xj:∀j,j<=5->(w.alloc (Obj.cells #[.slice none 0 0,.slice none 0 0,.slice none 0 0,.slice none 0 0,.slice none 0 0,.slice none 0 0] 37)).cell? ⟨w.heap.size,j,none⟩=some (.slice none 0 0):=fun j hj=>by
  have:j=0\/j=1\/j=2\/j=3\/j=4\/j=5:=by omega
  rcases this with rfl | rfl | rfl | rfl | rfl | rfl <;> go_simp
 have xu:Hid (Lw ⟨w,fun _=>True⟩ (fun i=>if i=(0,0) then H9 w.heap.size a0W else D7.none) (w.alloc (Obj.cells #[.slice none 0 0,.slice none 0 0,.slice none 0 0,.slice none 0 0,.slice none 0 0,.slice none 0 0] 37)) w.heap.size a0W 0 0):=hid (a2R (L3a (L3b _ _) (L1c _) _) R5 HT.out.1 xj (fun j=>by go_simp));clear xj;go_wp2_with fail;generalize (w.alloc (Obj.cells #[.slice none 0 0,.slice none 0 0,.slice none 0 0,.slice none 0 0,.slice none 0 0,.slice none 0 0] 37))=V at *
 go_loopw [6] (fun vi wr=>∃i:Nat,i<=l.length/\vi=.int .i64 i/\∃P Y,Lw ⟨w,fun _=>True⟩ P wr w.heap.size Y (i*10000) (i*100)) (fun vi _=>l.length - (intOf vi).toNat)
 case atStart=>exact ⟨0,L4c _,rfl,_,_,xu.out⟩
 case round =>
  obtain⟨i,hi,rfl,P,Y,hL⟩:=hrel;have xk:=hid hL;clear hL;by_cases hlt:i < l.length
  ·obtain ⟨s,hx⟩:∃s,l[i]?=some s:=⟨_,L1b hlt⟩
   obtain⟨sb,so,rfl,xb,xl⟩:=HL.out R4;have xn:=HS.out s (L2a hx);have xa:=xl i s hx;obtain⟨k,ka,kx,g,la,ln,lc,ba,bn,bc⟩:=s;have x0:w.cell? ⟨sb,so+i*6,none⟩=some (.int .i64 k):=xa 0 _ rfl;have x1:w.cell? ⟨sb,so+i*6+1,none⟩=some (.int .i64 ka):=xa 1 _ rfl;have x2:w.cell? ⟨sb,so+i*6+2,none⟩=some (.int .i64 kx):=xa 2 _ rfl;have x3:w.cell? ⟨sb,so+i*6+3,none⟩=some (.slice g.a g.n g.c):=xa 3 _ rfl
   have x4:w.cell? ⟨sb,so+i*6+4,none⟩=some (.slice la ln lc):=xa 4 _ rfl;have x5:w.cell? ⟨sb,so+i*6+5,none⟩=some (.slice ba bn bc):=xa 5 _ rfl;have HX:Hid (∀u,L0d w u->(u.cell? ⟨sb,so+i*6,none⟩=some (.int .i64 k)/\u.cell? ⟨sb,so+i*6+1,none⟩=some (.int .i64 ka)/\u.cell? ⟨sb,so+i*6+2,none⟩=some (.int .i64 kx)/\u.cell? ⟨sb,so+i*6+3,none⟩=some (.slice g.a g.n g.c)/\u.cell? ⟨sb,so+i*6+4,none⟩=some (.slice la ln lc)/\u.cell? ⟨sb,so+i*6+5,none⟩=some (.slice ba bn bc))):=hid fun u hu=>⟨keep hu xb x0,keep hu xb x1,keep hu xb x2,keep hu xb x3,keep hu xb x4,keep hu xb x5⟩
   have xg:Hid (k∈ks->∀U,Lw ⟨w,fun _=>True⟩ P U w.heap.size Y (i*10000) (i*100)->Calls prog 11 #[.pointer (some ⟨w.heap.size,0,none⟩),.agg #[.int .i64 k,.int .i64 ka,.int .i64 kx,.slice g.a g.n g.c,.slice la ln lc,.slice ba bn bc]] U fun e w'=>e=.returned (.bool true)/\∃P2 Y2,Lw ⟨w,fun _=>True⟩ P2 w' w.heap.size Y2 (i*10000+10000) (i*100+100)):=hid fun hk U hU=>xn hk P U Y _ _ R4 R4 hU
   have xv:(i:Int) < (l.length:Int):=by omega
   clear xa xl x0 x1 x2 x3 x4 x5 hx xn;go_wp2_with fail;go_loopw [7,8] (fun vf vj wr2=>∃(j:Nat) (fb:Bool),j<=ks.length/\vj=.int .i64 j/\vf=.bool fb/\(fb=true↔k∈ks.take j)/\Lw ⟨w,fun _=>True⟩ P wr2 w.heap.size Y (i*10000) (i*100)) (fun _ vj _=>ks.length - (intOf vj).toNat)
   case atStart=>exact ⟨0,false,by omega,rfl,rfl,⟨fun e=>(by cases e),fun e=>by simp at e⟩,xk.out⟩
   case round =>
    obtain⟨j,fb,hj,rfl,rfl,xi,xc⟩:=hrel;have xd:=hid xc;obtain⟨y0,y1,y2,y3,y4,y5⟩:=HX.out _ xc.kept;have xh:=hid xi;have xx:=xc.kept.size;by_cases hlj:j < ks.length
    ·obtain ⟨z,hz⟩:∃z,ks[j]?=some z:=⟨_,L1b hlj⟩
     have kj:=keep xc.kept hkb (HK.out j z hz);have xw:(j:Int) < (ks.length:Int):=by omega
     have xe:Hid (k∈ks.take (j+1)↔k∈ks.take j\/k=z):=hid (by rw [List.take_add_one,hz];simp);clear hz;clear xc xi y1 y2 y3 y4 y5
     cases fb with
     | true =>
      have xf:=xh.out.1 rfl;go_wp2_with fail;go_region
      all_goals go_wp2_with fail
      all_goals go_roundw
      case rel=>exact ⟨j+1,true,by omega,by go_num,rfl,⟨fun _=>xe.out.2 (L4a xf),fun _=>rfl⟩,xd.out.below (by repeat (first | exact L3b _ _ | refine L3c ?_))⟩
      case measure=>simp [intOf];omega
     | false =>
      have xf:¬k∈ks.take j:=fun e=>by have:=xh.out.2 e;cases this
      by_cases he:k=z
      ·have xr:(k == z)=true:=beq_iff_eq.2 he
       go_wp2_with fail;go_region
       all_goals go_wp2_with fail
       all_goals go_roundw
       case rel=>exact ⟨j+1,true,by omega,by go_num,rfl,⟨fun _=>xe.out.2 (L4b he),fun _=>rfl⟩,xd.out.below (by repeat (first | exact L3b _ _ | refine L3c ?_))⟩
       case measure=>simp [intOf];omega
      ·have xr:(k == z)=false:=L2c.2 he
       go_wp2_with fail;go_region
       all_goals go_wp2_with fail
       all_goals go_roundw
       case rel=>exact ⟨j+1,false,by omega,by go_num,rfl,⟨fun e=>(by cases e),fun e=>((xe.out.1 e).elim xf he).elim⟩,xd.out.below (by repeat (first | exact L3b _ _ | refine L3c ?_))⟩
       case measure=>simp [intOf];omega
    ·obtain rfl:j=ks.length:=by omega
     have xt:¬(ks.length:Int) < (ks.length:Int):=by omega
     clear xc xi
     cases fb with
     | true =>
      have xp:Hid (k∈ks):=hid (by have:=xh.out.1 rfl;rwa [List.take_length] at this);go_wp2_with (first | (go_at_call 11;refine (xg.out xp.out _ xd.out).mono ?_;rintro e w3 ⟨rfl,P2,Y2,xo⟩;have xq:=hid xo;clear xo) | (go_at_call 12;refine (a3T xq.out R4).mono ?_;rintro e w4 ⟨rfl,xm⟩;have xs:=hid xm;clear xm))
      go_roundw
      case rel=>exact ⟨i+1,by omega,by go_num,P2,Y2,xs.out.mono R4 R4⟩
      case measure=>simp [intOf];omega
     | false =>
      go_wp2_with fail;go_roundw
      case rel=>exact ⟨i+1,by omega,by go_num,P,Y,xd.out.mono R4 R4⟩
      case measure=>simp [intOf];omega
  ·obtain rfl:i=l.length:=by omega
   have xt:¬(l.length:Int) < (l.length:Int):=by omega
   go_wp2_with fail;go_ret;exact⟨rfl,xk.out.kept⟩
end Go.Proofs.YtbkmgoffiigdbaaGreatDoor
