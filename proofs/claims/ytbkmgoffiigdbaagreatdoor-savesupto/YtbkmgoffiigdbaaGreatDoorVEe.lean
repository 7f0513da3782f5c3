import Derived.Test.YtbkmgoffiigdbaaGreatDoorVDc
import Derived.Deep.RegionWith
namespace Go.Proofs.YtbkmgoffiigdbaaGreatDoor
open Go.RowKit Go.Sort Go.Proofs.Tryz
set_option maxHeartbeats 4000000
set_option maxRecDepth 100000
theorem qM (a b:Option Addr) (n c m d:Nat) (p l op x:Int) (w:World) (ht:Tab w) (h0:0<=l) (h8:l<=8) (hn:n<=1152921504606846976) (hm:m<=1152921504606846976) :
  Calls prog 174 #[.agg #[.slice a n c],.agg #[J p,J l,.slice b m d],.agg #[J op,J x]] w fun e w'=>e=.returned (.bool (F5 n l m op x))/\L0d w w':=by
 cases hin:B3 op 0 27 with
 | false =>
  have e:F5 n l m op x=false:=by
   have:¬(0<=op/\op<=27):=fun h=>by rw [U7 h.1 h.2] at hin;cases hin
   cases hl:F5 n l m op x with
   | false=>rfl
   | true=>exact absurd (gC hl) this
  rw[e];exact sW a b n c m d p l x op w hin
 | true =>
  obtain⟨o0,xa⟩:=E5.1 hin;obtain⟨k,rfl⟩:=L5c o0;have hk:k < 28:=by omega
  have hc:=(ht.2 k hk).2.2.2.1;by_cases h1:k=0
  ·rw [show S4 k=255 by simp [S4,h1]] at hc
   rw[show F5 n l m k x=true by unfold F5;rw [if_pos R5]];exact N4 a b n c m d p l x k w ht.1 hk 255 _ R4 hc fun U=>sM _ _ _ _ _ _ _ _ _ U
  by_cases h2:k=2\/k=3
  ·rw [show S4 k=259 by unfold S4;rw [if_neg h1,if_pos h2]] at hc
   rw[show F5 n l m k x=B3 x 0 (l - 1) by unfold F5;rw [if_neg R5,if_pos R5]];exact N4 a b n c m d p l x k w ht.1 hk 259 _ R4 hc fun U=>yJ _ _ _ _ _ _ _ _ _ U h0 h8
  by_cases h3:k=12\/k=13
  ·rw [show S4 k=270 by unfold S4;rw [if_neg h1,if_neg h2,if_pos h3]] at hc
   rw[show F5 n l m k x=B3 x 0 (m - 1) by unfold F5;rw [if_neg R5,if_neg R5,if_pos R5]];exact N4 a b n c m d p l x k w ht.1 hk 270 _ R4 hc fun U=>jW _ _ _ _ _ _ _ _ _ U hm
  by_cases h4:k=14
  ·rw [show S4 k=273 by unfold S4;rw [if_neg h1,if_neg h2,if_neg h3,if_pos h4]] at hc
   rw[show F5 n l m k x=B3 x 0 (n - 1) by unfold F5;rw [if_neg R5,if_neg R5,if_neg R5,if_pos R5]];exact N4 a b n c m d p l x k w ht.1 hk 273 _ R4 hc fun U=>qE _ _ _ _ _ _ _ _ _ U hn
  by_cases h5:k=16
  ·rw [show S4 k=276 by unfold S4;rw [if_neg h1,if_neg h2,if_neg h3,if_neg h4,if_pos h5]] at hc
   rw[show F5 n l m k x=B3 x 0 8 by unfold F5;rw [if_neg R5,if_neg R5,if_neg R5,if_neg R5,if_pos R5]];exact N4 a b n c m d p l x k w ht.1 hk 276 _ R4 hc fun U=>mS _ _ _ _ _ _ _ _ _ U
  by_cases h6:k=19\/k=20
  ·rw [show S4 k=280 by unfold S4;rw [if_neg h1,if_neg h2,if_neg h3,if_neg h4,if_neg h5,if_pos h6]] at hc
   rw[show F5 n l m k x=B3 x 0 7 by unfold F5;rw [if_neg R5,if_neg R5,if_neg R5,if_neg R5,if_neg R5,if_pos R5]];exact N4 a b n c m d p l x k w ht.1 hk 280 _ R4 hc fun U=>yI _ _ _ _ _ _ _ _ _ U
  ·rw [show S4 k=257 by unfold S4;rw [if_neg h1,if_neg h2,if_neg h3,if_neg h4,if_neg h5,if_neg h6]] at hc
   rw[show F5 n l m k x=(x == 0) by unfold F5;rw [if_neg R5,if_neg R5,if_neg R5,if_neg R5,if_neg R5,if_neg R5,hin,Bool.true_and]];exact N4 a b n c m d p l x k w ht.1 hk 257 _ R4 hc fun U=>wU _ _ _ _ _ _ _ _ _ U
theorem gI {k p l:Int} {n:Nat} (h:bF k p l n=true):1<=n/\n<=60/\0<=l/\l<=8/\0<=p/\p<=l:=by
 simp only[bF,Bool.and_eq_true,E5] at h;omega
def X7 (g:PgR):Prop:=1<=g.n/\g.n<=8/\∀i,i < g.n->bF i (g.f i).p (g.f i).l (g.f i).n=true
def S7 (g:PgR) (i j:Nat):Bool:=F5 g.n (g.f i).l (g.f i).n ((g.f i).op j) ((g.f i).ar j)
def bI (g:PgR) (at_:Int) (ok:Bool):Prop :=
 (ok=true/\at_=0/\∀i,i < g.n->∀j,j < (g.f i).n->S7 g i j=true) \/
 (ok=false/\∃k j:Nat,at_=1000*(k:Int)+(j:Int)/\k < g.n/\(∀i,i < k->∀j,j < (g.f i).n->S7 g i j=true)/\uW (g.f k).n (S7 g k) j)
def S5 (g:PgR) (at_:Int) (ok:Bool):Prop :=
 (ok=true/\at_=0/\∀i,i < g.n->(B6 g (g.f i)).Fits) \/
 (ok=false/\∃k:Nat,at_=k/\k < g.n/\¬(B6 g (g.f k)).Fits/\∀i,i < k->(B6 g (g.f i)).Fits)
theorem X7.bd {g:PgR} (h:X7 g) {i:Nat} (hi:i < g.n):1<=(g.f i).n/\(g.f i).n<=60/\0<=(g.f i).l/\(g.f i).l<=8/\0<=(g.f i).p/\(g.f i).p<=(g.f i).l:=gI (h.2.2 i hi)
def uR (g:PgR) (w:World) (e:Ending) (w':World):Prop:=∃at_ ok,e=.returned (.tuple #[J at_,.bool ok])/\bI g at_ ok/\L0d w w'
theorem vM {g:PgR} {w:World} {e:Ending} {w':World} (at_:Int) (ok:Bool) (he:e=.returned (.tuple #[J at_,.bool ok])) (hs:bI g at_ ok) (hb:L0d w w'):uR g w e w':=⟨at_,ok,he,hs,hb⟩
theorem qG (g:PgR) (w:World) (hg:I9 w.heap.size w g) (hS:X7 g) (ht:Tab w) :
  Calls prog 132 #[.agg #[.slice g.a g.n g.c]] w fun e w'=>uR g w e w':=by
 have hn:=hg.1;have yh:=hS.1;have yi:=hS.2.1;obtain⟨ha,hb,hc⟩:=hg.2.1 R5;have HC:=(show Hid _ from hc);clear hc;have yd:=ht.1;have xs:(w.alloc (Obj.cells #[.slice g.a g.n g.c] 41)).cell? ⟨w.heap.size,0,none⟩=some (.slice g.a g.n g.c):=by go_simp
 rw[ha] at xs ⊢;clear ha;go_enter func132,ntmps132;go_wp2
 have xd:L0d w (w.alloc (Obj.cells #[.slice (some ⟨g.b,g.o,none⟩) g.n g.c] 41)):=(L3b _ _).alloc (L1c _) _;have yg:(w.alloc (Obj.cells #[.slice (some ⟨g.b,g.o,none⟩) g.n g.c] 41)).heap.size=w.heap.size+1:=by simp
 generalize w.alloc (Obj.cells #[.slice (some ⟨g.b,g.o,none⟩) g.n g.c] 41)=W1 at *
 go_loopw [11] (fun i wr=>∃k:Nat,k<=g.n/\i=J k/\(∀i,i < k->∀j,j < (g.f i).n->S7 g i j=true)/\L0d W1 wr) (fun i _=>g.n - (intOf i).toNat)
 case atStart=>exact ⟨0,L4c _,rfl,fun j hj=>by omega,L3b _ _⟩
 case round =>
  obtain⟨k,hk,rfl,xj,xb⟩:=hrel;have xl:=(show Hid _ from xj);clear xj;have xw:=xb.size;by_cases hlt:k < g.n
  ·obtain ⟨c0,c1,c2⟩:=HC.out k hlt
   have xa:L0d w wr:=xd.trans (xb.mono R5);rw[<- xa.cell (p:=⟨g.b,_,none⟩) hb] at c0 c1 c2;have ya:g.b < wr.heap.size:=by omega
   obtain⟨xx,xu,xm,xn,_,_⟩:=hS.bd hlt;obtain⟨xr,xz,xq⟩:=(hg.2.2 k hlt).2 xx;rw[xr] at c2;have ye:=(show Hid _ from xq);clear xq xr;go_wp2
   have xf:L0d wr (wr.alloc (Obj.cells #[J (g.f k).p,J (g.f k).l,.slice (some ⟨(g.f k).b,(g.f k).o,none⟩) (g.f k).n (g.f k).c] 163)):=(L3b _ _).alloc (L1c _) _;have e0:(wr.alloc (Obj.cells #[J (g.f k).p,J (g.f k).l,.slice (some ⟨(g.f k).b,(g.f k).o,none⟩) (g.f k).n (g.f k).c] 163)).cell? ⟨wr.heap.size,0,none⟩=some (J (g.f k).p):=by go_simp
   have e1:(wr.alloc (Obj.cells #[J (g.f k).p,J (g.f k).l,.slice (some ⟨(g.f k).b,(g.f k).o,none⟩) (g.f k).n (g.f k).c] 163)).cell? ⟨wr.heap.size,1,none⟩=some (J (g.f k).l):=by go_simp
   have e2:(wr.alloc (Obj.cells #[J (g.f k).p,J (g.f k).l,.slice (some ⟨(g.f k).b,(g.f k).o,none⟩) (g.f k).n (g.f k).c] 163)).cell? ⟨wr.heap.size,2,none⟩=some (.slice (some ⟨(g.f k).b,(g.f k).o,none⟩) (g.f k).n (g.f k).c):=by go_simp
   have xv:(wr.alloc (Obj.cells #[J (g.f k).p,J (g.f k).l,.slice (some ⟨(g.f k).b,(g.f k).o,none⟩) (g.f k).n (g.f k).c] 163)).heap.size=wr.heap.size+1:=by simp
   generalize wr.alloc (Obj.cells #[J (g.f k).p,J (g.f k).l,.slice (some ⟨(g.f k).b,(g.f k).o,none⟩) (g.f k).n (g.f k).c] 163)=WF at *
   clear c0 c1 c2;obtain⟨fb,xi⟩:∃fb,fb=wr.heap.size:=⟨_,rfl⟩
   unfold L0d at xf;rw[<- xi] at e0 e1 e2 xv xf ⊢;have xe:L0d W1 WF:=xb.trans (xf.mono R5);have yb:W1.heap.size<=fb:=by omega
   clear xi xb xa ya xw;go_loopw [19] (fun i wx=>∃j:Nat,j<=(g.f k).n/\i=J j/\(∀t,t < j->S7 g k t=true)/\L0d WF wx) (fun i _=>(g.f k).n - (intOf i).toNat)
   case atStart=>exact ⟨0,L4c _,rfl,fun j hj=>by omega,L3b _ _⟩
   case round =>
    obtain⟨j,hj,rfl,xg,xc⟩:=hrel;have xh:=(show Hid _ from xg);clear xg;have xt:=xc.size;by_cases hjl:j < (g.f k).n
    ·obtain ⟨o0,o1⟩:=ye.out j hjl
     have xa:L0d w wr:=(xd.trans (xe.mono R5)).trans (xc.mono R5);rw[<- xa.cell (p:=⟨(g.f k).b,_,none⟩) xz] at o0 o1;have xy:(g.f k).b < wr.heap.size:=by omega
     have yc:fb < wr.heap.size:=by omega
     have yf:w.heap.size < wr.heap.size:=by omega
     have k0:wr.cell? ⟨w.heap.size,0,none⟩=some (.slice (some ⟨g.b,g.o,none⟩) g.n g.c):=by rw [(xe.trans (xc.mono R5)).cell (by show w.heap.size < W1.heap.size;omega)];exact xs
     have x0:wr.cell? ⟨fb,0,none⟩=some (J (g.f k).p):=by rw [xc.cell (by show fb < WF.heap.size;omega)];exact e0
     have x1:wr.cell? ⟨fb,1,none⟩=some (J (g.f k).l):=by rw [xc.cell (by show fb < WF.heap.size;omega)];exact e1
     have x2:wr.cell? ⟨fb,2,none⟩=some (.slice (some ⟨(g.f k).b,(g.f k).o,none⟩) (g.f k).n (g.f k).c):=by rw [xc.cell (by show fb < WF.heap.size;omega)];exact e2
     have xo:Tab wr:=ht.below yd xa;have xk:F5 g.n (g.f k).l (g.f k).n ((g.f k).op j) ((g.f k).ar j)=S7 g k j:=rfl;have HI:Hid (∀W,L0d wr W->Calls prog 174 #[.agg #[.slice (some ⟨g.b,g.o,none⟩) g.n g.c],.agg #[J (g.f k).p,J (g.f k).l,.slice (some ⟨(g.f k).b,(g.f k).o,none⟩) (g.f k).n (g.f k).c],.agg #[J ((g.f k).op j),J ((g.f k).ar j)]] W fun e w'=>e=.returned (.bool (S7 g k j))/\L0d W w'):=by
      intro W hW;rw[<- xk];exact qM _ _ _ _ _ _ _ _ _ _ W (xo.below xo.1 hW) xm xn hn R5
     clear xk xo
     cases hlj:S7 g k j
     ·rw [hlj] at HI
      go_wp2_with fail;refine (HI.out _ P4).mono ?_;rintro e w2 ⟨rfl,xp⟩;go_wp2_with fail;go_ret2;exact vM _ false rfl (L4b ⟨rfl,k,j,rfl,hlt,xl.out,hjl,hlj,xh.out⟩) (D7 xp ((xa.alloc R5 _)) Q1)
     ·rw [hlj] at HI
      go_wp2_with fail;refine (HI.out _ P4).mono ?_;rintro e w2 ⟨rfl,xp⟩;go_wp2_with fail;go_roundw
      case rel=>exact ⟨j+1,by omega,by go_num,fun t ht=>by
       by_cases e:t=j
       ·subst e;exact hlj
       ·exact xh.out t R5,D7 xp ((xc.alloc R5 _)) Q1⟩
      case measure=>simp [intOf];omega
    ·go_wp2_with fail
     go_roundw
     case rel=>exact ⟨k+1,by omega,by go_num,fun t ht j' hj'=>by
      by_cases e:t=k
      ·subst e;exact xh.out j' R5
      ·exact xl.out t R5 j' hj',xe.trans (xc.mono R5)⟩
     case measure=>simp [intOf];omega
  ·go_wp2
   go_ret2;exact vM 0 true rfl (L4a ⟨rfl,rfl,fun i hi j hj=>xl.out i R5 j hj⟩) (xd.trans (xb.mono R5))
section
variable {a b:Int} {e:Ending} {g:PgR} {w w':World} {x y:Bool}
def fL (g:PgR):Prop:=∀i,i < g.n->∀j,j < (g.f i).n->S7 g i j=true
theorem nG (hS:X7 g) (hL:fL g) {i:Nat} (hi:i < g.n):yC g (g.f i) :=
 ⟨(hS.bd hi).1,(hS.bd hi).2.1,fun j hj=>by have:=hS.bd hj;omega,hL i hi⟩
def a4n (g:PgR) (w:World) (e:Ending) (w':World):Prop:=∃at_ ok,e=.returned (.tuple #[J at_,.bool ok])/\S5 g at_ ok/\L0d w w'
theorem a5d (at_:Int) (ok:Bool) (he:e=.returned (.tuple #[J at_,.bool ok])) (hs:S5 g at_ ok) (hb:L0d w w'):a4n g w e w':=⟨at_,ok,he,hs,hb⟩
theorem lG (g:PgR) (w:World) (hg:I9 w.heap.size w g) (hS:X7 g) (hL:fL g) (ht:Tab w) :
  Calls prog 133 #[.agg #[.slice g.a g.n g.c]] w fun e w'=>a4n g w e w':=by
 have hn:=hg.1;have xs:=hS.1;have xt:=hS.2.1;obtain⟨ha,hb,hc⟩:=hg.2.1 R5;have HC:=(show Hid _ from hc);clear hc;have xk:=ht.1;have HA:=(show Hid _ from ha);have xm:(w.alloc (Obj.cells #[.slice g.a g.n g.c] 41)).cell? ⟨w.heap.size,0,none⟩=some (.slice g.a g.n g.c):=by go_simp
 rw[ha] at xm ⊢;clear ha;go_enter func133,ntmps133;go_wp2
 have xd:L0d w (w.alloc (Obj.cells #[.slice (some ⟨g.b,g.o,none⟩) g.n g.c] 41)):=(L3b _ _).alloc (L1c _) _;have xr:(w.alloc (Obj.cells #[.slice (some ⟨g.b,g.o,none⟩) g.n g.c] 41)).heap.size=w.heap.size+1:=by simp
 generalize w.alloc (Obj.cells #[.slice (some ⟨g.b,g.o,none⟩) g.n g.c] 41)=W1 at *
 go_loopw [11] (fun i wr=>∃k:Nat,k<=g.n/\i=J k/\(∀i,i < k->(B6 g (g.f i)).Fits)/\L0d W1 wr) (fun i _=>g.n - (intOf i).toNat)
 case atStart=>exact ⟨0,L4c _,rfl,fun j hj=>by omega,L3b _ _⟩
 case round =>
  obtain⟨k,hk,rfl,xe,xa⟩:=hrel;have xg:=(show Hid _ from xe);clear xe;have xo:=xa.size;by_cases hlt:k < g.n
  ·obtain ⟨c0,c1,c2⟩:=HC.out k hlt
   have xb:L0d w wr:=xd.trans (xa.mono R5);rw[<- xb.cell (p:=⟨g.b,_,none⟩) hb] at c0 c1 c2;have xq:g.b < wr.heap.size:=by omega
   have xp:w.heap.size < wr.heap.size:=by omega
   have k0:wr.cell? ⟨w.heap.size,0,none⟩=some (.slice (some ⟨g.b,g.o,none⟩) g.n g.c):=by rw [xa.cell (by show w.heap.size < W1.heap.size;omega)];exact xm
   have HH:Hid (∀W,L0d wr W->Calls prog 175 #[.agg #[.slice (some ⟨g.b,g.o,none⟩) g.n g.c],.agg #[J (g.f k).p,J (g.f k).l,.slice (g.f k).a (g.f k).n (g.f k).c]] W fun e w'=>V7 g (g.f k) W e w'):=by
    intro W hW;have xi:L0d w W:=xb.trans (hW.mono xb.size);rw[<- HA.out];exact qK w.heap.size g (g.f k) W xk (L5a xb.size hW.size) (hg.below xi) ((hg.2.2 k hlt).below xi) (nG hS hL hlt) (ht.below xk xi)
   go_wp2_with fail;refine (HH.out _ P4).mono ?_;rintro e w2 ⟨v,ok,rfl,xc,xl⟩
   cases ok
   ·have xj:¬(B6 g (g.f k)).Fits:=fun h=>by have:=xc.2 h;cases this
    have xn:=(show Hid _ from xj);clear xj xc;go_wp2_with fail;go_ret2;exact a5d k false rfl (L4b ⟨rfl,k,rfl,hlt,xn.out,xg.out⟩) (D7 xl ((xb.alloc R5 _)) Q1)
   ·have xf:=xc.1 rfl
    have xh:=(show Hid _ from xf);clear xf xc;go_wp2_with fail;go_roundw
    case rel=>exact ⟨k+1,by omega,by go_num,fun t ht=>by
     by_cases e:t=k
     ·subst e;exact xh.out
     ·exact xg.out t R5,D7 xl ((xa.alloc R5 _)) Q1⟩
    case measure=>simp [intOf];omega
  ·go_wp2
   go_ret2;exact a5d 0 true rfl (L4a ⟨rfl,rfl,fun i hi=>xg.out i R5⟩) (xd.trans (xa.mono R5))
def J9 (g:PgR) (e a:Int):Prop :=
 (aN g a false/\e=1)\/(aN g 0 true/\((bI g a false/\e=2)\/(bI g 0 true/\((S5 g a false/\e=3)\/(S5 g 0 true/\e=0/\a=0)))))
theorem aN.all (h:aN g a true):X7 g/\a=0:=by
 rcases h with ⟨_,h0,h1,h2,h3⟩ | ⟨h,_⟩ | ⟨h,_⟩
 ·exact ⟨⟨h1,h2,h3⟩,h0⟩
 ·cases h
 ·cases h
theorem bI.all (h:bI g a true):fL g/\a=0:=by
 rcases h with ⟨_,h0,h1⟩ | ⟨h,_⟩
 ·exact ⟨h1,h0⟩
 ·cases h
theorem S5.zero (h:S5 g a true):a=0:=by
 rcases h with ⟨_,h0,_⟩ | ⟨h,_⟩
 ·exact h0
 ·cases h
theorem aN.unique (h:aN g a x) (h':aN g b y):a=b/\x=y:=by
 rcases h with ⟨rfl,rfl,h1,h2,h3⟩ | ⟨rfl,rfl,h1⟩ | ⟨rfl,h1,h2,k,rfl,hk⟩ <;> rcases h' with ⟨rfl,rfl,g1,g2,g3⟩ | ⟨rfl,rfl,g1⟩ | ⟨rfl,g1,g2,k',rfl,xa⟩
 ·exact ⟨rfl,rfl⟩
 ·exact absurd ⟨h1,h2⟩ g1
 ·have:=h3 k' xa.1;have h4:=xa.2.1;simp only at h4;rw [this] at h4;cases h4
 ·exact absurd ⟨g1,g2⟩ h1
 ·exact ⟨rfl,rfl⟩
 ·exact absurd ⟨g1,g2⟩ h1
 ·have:=g3 k hk.1;have h4:=hk.2.1;simp only at h4;rw [this] at h4;cases h4
 ·exact absurd ⟨h1,h2⟩ g1
 ·rw [hk.unique xa];exact ⟨rfl,rfl⟩
theorem bI.unique (h:bI g a x) (h':bI g b y):a=b/\x=y:=by
 rcases h with ⟨rfl,rfl,h1⟩ | ⟨rfl,k,j,rfl,hk,h1,hj⟩ <;> rcases h' with ⟨rfl,rfl,g1⟩ | ⟨rfl,k',j',rfl,xb,g1,xa⟩
 ·exact ⟨rfl,rfl⟩
 ·have:=h1 k' xb j' xa.1;rw [xa.2.1] at this;cases this
 ·have:=g1 k hk j hj.1;rw [hj.2.1] at this;cases this
 ·rcases Nat.lt_trichotomy k k' with hl | rfl | hl
  ·have:=g1 k hl j hj.1;rw [hj.2.1] at this;cases this
  ·rw [hj.unique xa];exact ⟨rfl,rfl⟩
  ·have:=h1 k' hl j' xa.1;rw [xa.2.1] at this;cases this
theorem S5.unique (h:S5 g a x) (h':S5 g b y):a=b/\x=y:=by
 rcases h with ⟨rfl,rfl,h1⟩ | ⟨rfl,k,rfl,hk,h1,hj⟩ <;> rcases h' with ⟨rfl,rfl,g1⟩ | ⟨rfl,k',rfl,xb,g1,xa⟩
 ·exact ⟨rfl,rfl⟩
 ·exact absurd (h1 k' xb) g1
 ·exact absurd (g1 k hk) h1
 ·rcases Nat.lt_trichotomy k k' with hl | rfl | hl
  ·exact absurd (xa k hl) h1
  ·exact ⟨rfl,rfl⟩
  ·exact absurd (hj k' hl) g1
theorem J9.unique {e e' a':Int} (h:J9 g e a) (h':J9 g e' a'):e=e'/\a=a':=by
 rcases h with ⟨h1,rfl⟩ | ⟨h1,⟨h2,rfl⟩ | ⟨h2,⟨h3,rfl⟩ | ⟨h3,rfl,rfl⟩⟩⟩ <;> rcases h' with ⟨g1,rfl⟩ | ⟨g1,⟨g2,rfl⟩ | ⟨g2,⟨g3,rfl⟩ | ⟨g3,rfl,rfl⟩⟩⟩
 all_goals first
  | exact ⟨rfl,rfl⟩
  | exact absurd (h1.unique g1).2 R4
  | exact absurd (h2.unique g2).2 R4
  | exact absurd (h3.unique g3).2 R4
  | exact ⟨rfl,(h1.unique g1).1⟩
  | exact ⟨rfl,(h2.unique g2).1⟩
  | exact ⟨rfl,(h3.unique g3).1⟩
def gK (g:PgR) (w:World) (e:Ending) (w':World):Prop:=∃x a,e=.returned (.tuple #[J x,J a])/\J9 g x a/\L0d w w'
theorem U6 (x a:Int) (he:e=.returned (.tuple #[J x,J a])) (hs:J9 g x a) (hb:L0d w w'):gK g w e w':=⟨x,a,he,hs,hb⟩
theorem rE (g:PgR) (w:World) (hg:I9 w.heap.size w g) (ht:Tab w) :
  Calls prog 95 #[.agg #[.slice g.a g.n g.c]] w fun e w'=>gK g w e w':=by
 have xj:=ht.1;go_enter func95,ntmps95;go_wp2_with fail;have xd:L0d w (w.alloc (Obj.cells #[.slice g.a g.n g.c] 41)):=(L3b _ _).alloc (L1c _) _;have k0:(w.alloc (Obj.cells #[.slice g.a g.n g.c] 41)).cell? ⟨w.heap.size,0,none⟩=some (.slice g.a g.n g.c):=by go_simp
 have xu:(w.alloc (Obj.cells #[.slice g.a g.n g.c] 41)).heap.size=w.heap.size+1:=by simp
 generalize w.alloc (Obj.cells #[.slice g.a g.n g.c] 41)=W at *
 have xp:I9 W.heap.size W g:=(hg.below xd).mono xd.size;refine (nW g W xp).mono ?_;rintro e w2 ⟨xr,xm,rfl,xc,xg⟩;have xb:L0d w w2:=xd.trans (xg.mono xd.size);have k2:w2.cell? ⟨w.heap.size,0,none⟩=some (.slice g.a g.n g.c):=by rw [xg.cell (by show w.heap.size < W.heap.size;omega)];exact k0
 have xs:=xg.size
 cases xm
 ·go_wp2_with fail
  go_ret2;exact U6 1 xr rfl (L4a ⟨xc,rfl⟩) xb
 obtain⟨hS,rfl⟩:=xc.all;clear xg k0;go_wp2_with fail;refine (qG g w2 ((hg.below xb).mono xb.size) hS (ht.below xj xb)).mono ?_;rintro e w3 ⟨xq,xo,rfl,xf,xe⟩;have xa:L0d w w3:=xb.trans (xe.mono xb.size);have k3:w3.cell? ⟨w.heap.size,0,none⟩=some (.slice g.a g.n g.c):=by rw [xe.cell (by show w.heap.size < w2.heap.size;omega)];exact k2
 have xk:=xe.size
 cases xo
 ·go_wp2_with fail
  go_ret2;exact U6 2 xq rfl (L4b ⟨xc,L4a ⟨xf,rfl⟩⟩) xa
 obtain⟨hL,rfl⟩:=xf.all;clear xe k2;go_wp2_with fail;refine (lG g w3 ((hg.below xa).mono xa.size) hS hL (ht.below xj xa)).mono ?_;rintro e w4 ⟨xt,xl,rfl,xh,xn⟩;have xi:L0d w w4:=xa.trans (xn.mono xa.size)
 cases xl
 ·go_wp2_with fail
  go_ret2;exact U6 3 xt rfl (L4b ⟨xc,L4b ⟨xf,L4a ⟨xh,rfl⟩⟩⟩) xi
 obtain rfl:=xh.zero;go_wp2_with fail;go_ret2;exact U6 0 0 rfl (L4b ⟨xc,L4b ⟨xf,L4b ⟨xh,rfl,rfl⟩⟩⟩) xi
end
theorem eX (g:PgR) (w:World) (hg:I9 w.heap.size w g) :
  Calls prog 59 #[.agg #[.slice g.a g.n g.c]] w fun e w'=>gK g w e w':=by
 have hn:=hg.1;by_cases h8:1<=g.n/\g.n<=8
 ·obtain ⟨xr,xs⟩:=h8
  obtain⟨ha,hb,hc⟩:=hg.2.1 R5;have HC:=(show Hid _ from hc);clear hc;have HA:=(show Hid _ from ha);have xn:(w.alloc (Obj.cells #[.slice g.a g.n g.c] 41)).cell? ⟨w.heap.size,0,none⟩=some (.slice g.a g.n g.c):=by go_simp
  rw[ha] at xn ⊢;clear ha;go_enter func59,ntmps59;go_wp2
  have xd:L0d w (w.alloc (Obj.cells #[.slice (some ⟨g.b,g.o,none⟩) g.n g.c] 41)):=(L3b _ _).alloc (L1c _) _;have yl:(w.alloc (Obj.cells #[.slice (some ⟨g.b,g.o,none⟩) g.n g.c] 41)).heap.size=w.heap.size+1:=by simp
  generalize w.alloc (Obj.cells #[.slice (some ⟨g.b,g.o,none⟩) g.n g.c] 41)=W1 at *
  go_loopw [4] (fun i wr=>∃k:Nat,k<=g.n/\i=J k/\(∀j:Nat,j < k->bF j (g.f j).p (g.f j).l (g.f j).n=true)/\L0d W1 wr) (fun i _=>g.n - (intOf i).toNat)
  case atStart=>exact ⟨0,L4c _,rfl,fun j hj=>by omega,L3b _ _⟩
  case round =>
   obtain⟨k,hk,rfl,xc,xb⟩:=hrel;have xe:=(show Hid _ from xc);clear xc;have xj:=xb.size;have xk:w.heap.size < wr.heap.size:=by omega
   have xa:L0d w wr:=xd.trans (xb.mono R5);have k0:wr.cell? ⟨w.heap.size,0,none⟩=some (.slice (some ⟨g.b,g.o,none⟩) g.n g.c):=by rw [xb.cell (by show w.heap.size < W1.heap.size;omega)];exact xn
   by_cases hlt:k < g.n
   ·obtain ⟨c0,c1,c2⟩:=HC.out k hlt
    rw[<- xa.cell (p:=⟨g.b,_,none⟩) hb] at c0 c1 c2;have xu:g.b < wr.heap.size:=by omega
    have xv:=(hg.2.2 k hlt).1
    cases hs:bF k (g.f k).p (g.f k).l (g.f k).n
    ·go_wp2_with fail
     refine (rT _ _ _ _ _ _ _ xv).mono ?_;rintro e w2 ⟨rfl,xi⟩;rw[hs];go_wp2_with fail;go_ret2;exact U6 1 k rfl (L4a ⟨L4b (L4b ⟨rfl,xr,xs,k,rfl,hlt,hs,xe.out⟩),rfl⟩) (D7 xi xa Q1)
    ·go_wp2_with fail
     refine (rT _ _ _ _ _ _ _ xv).mono ?_;rintro e w2 ⟨rfl,xi⟩;rw[hs];go_wp2_with fail;go_roundw
     case rel=>exact ⟨k+1,by omega,by go_num,fun t ht=>by
      by_cases e:t=k
      ·subst e;exact hs
      ·exact xe.out t R5,D7 xi xb Q1⟩
     case measure=>simp [intOf];omega
   ·have hS:X7 g:=⟨xr,xs,fun i hi=>xe.out i R5⟩
    have xq:aN g 0 true:=L4a ⟨rfl,rfl,xr,xs,hS.2.2⟩;go_wp2_with fail;clear k0;go_loopw [6] (fun i wr=>∃k:Nat,k<=g.n/\i=J k/\(∀i,i < k->∀j,j < (g.f i).n->S7 g i j=true)/\L0d W1 wr) (fun i _=>g.n - (intOf i).toNat)
    case atStart=>exact ⟨0,L4c _,rfl,fun j hj=>by omega,xb⟩
    case round =>
     clear xe xb xj xk xa hlt;obtain⟨k,hk,rfl,xc,xb⟩:=hrel;have xe:=(show Hid _ from xc);clear xc;have xj:=xb.size;have xk:w.heap.size < wr.heap.size:=by omega
     have xa:L0d w wr:=xd.trans (xb.mono R5);have k0:wr.cell? ⟨w.heap.size,0,none⟩=some (.slice (some ⟨g.b,g.o,none⟩) g.n g.c):=by rw [xb.cell (by show w.heap.size < W1.heap.size;omega)];exact xn
     by_cases hlt:k < g.n
     ·obtain ⟨ye,ya,yb,yc,_,_⟩:=hS.bd hlt
      obtain⟨xy,yf,xt⟩:=(hg.2.2 k hlt).2 ye;have yi:=(show Hid _ from xt);clear xt;have yk:=(show Hid _ from xy);clear xy;go_wp2_with fail;clear k0;go_loopw [7] (fun i wx=>∃j:Nat,j<=(g.f k).n/\i=J j/\(∀t,t < j->S7 g k t=true)/\L0d W1 wx) (fun i _=>(g.f k).n - (intOf i).toNat)
      case atStart=>exact ⟨0,L4c _,rfl,fun j hj=>by omega,xb⟩
      case round =>
       clear xb xj xk xa;obtain⟨j,hj,rfl,xg,xb⟩:=hrel;have xh:=(show Hid _ from xg);clear xg;have xj:=xb.size;have xk:w.heap.size < wr.heap.size:=by omega
       have xa:L0d w wr:=xd.trans (xb.mono R5);have k0:wr.cell? ⟨w.heap.size,0,none⟩=some (.slice (some ⟨g.b,g.o,none⟩) g.n g.c):=by rw [xb.cell (by show w.heap.size < W1.heap.size;omega)];exact xn
       obtain⟨c0,c1,c2⟩:=HC.out k hlt;rw[<- xa.cell (p:=⟨g.b,_,none⟩) hb] at c0 c1 c2;rw[yk.out] at c2;have xu:g.b < wr.heap.size:=by omega
       by_cases hjl:j < (g.f k).n
       ·obtain ⟨o0,o1⟩:=yi.out j hjl
        rw[<- xa.cell (p:=⟨(g.f k).b,_,none⟩) yf] at o0 o1;have yh:(g.f k).b < wr.heap.size:=by omega
        have m0:=cell_regrown k0;have m1:=cell_regrown c0;have m2:=cell_regrown c1;have m3:=cell_regrown c2;have m4:=cell_regrown o0;have m5:=cell_regrown o1;have xl:Hid (∀d os,Calls prog 97 #[.agg #[.slice (some ⟨g.b,g.o,none⟩) g.n g.c],.agg #[J (g.f k).p,J (g.f k).l,.slice (some ⟨(g.f k).b,(g.f k).o,none⟩) (g.f k).n (g.f k).c],.agg #[J ((g.f k).op j),J ((g.f k).ar j)]] (grow (redrawn wr d) os) fun e w''=>e=.returned (.bool (S7 g k j))/\∃p:Regrown,w''=grow (redrawn wr p.d) p.os):=fun d os=>Calls.regrown_of (a2M _ _ _ _ _ _ _ _ _ _ _)
        cases hlj:S7 g k j
        ·rw [hlj] at xl
         go_wp2_with fail;clear k0 c0 c1 c2 o0 o1;refine wp_region_quiet_below Q8 Q8 ?_
         repeat (first
          | go_big_quiet_step ((go_at_call 97;exact xl.out _ _))
          | quiet_step ((go_at_call 97;exact xl.out _ _)))
         refine wpQuiet_nil ?_;intro _ hw';obtain⟨⟨dq,xo⟩,hw''⟩:=hw';subst hw'';clear m0 m1 m2 m3 m4 m5;go_wp2_with fail;go_ret2;exact U6 2 _ rfl (L4b ⟨xq,L4a ⟨L4b ⟨rfl,k,j,rfl,hlt,xe.out,hjl,hlj,xh.out⟩,rfl⟩⟩) (xa.trans ((below_regrown wr dq xo).mono xa.size))
        ·rw [hlj] at xl
         go_wp2_with fail;clear k0 c0 c1 c2 o0 o1;refine wp_region_quiet_below Q8 Q8 ?_
         repeat (first
          | go_big_quiet_step ((go_at_call 97;exact xl.out _ _))
          | quiet_step ((go_at_call 97;exact xl.out _ _)))
         refine wpQuiet_nil ?_;intro _ hw';obtain⟨⟨dq,xo⟩,hw''⟩:=hw';subst hw'';clear m0 m1 m2 m3 m4 m5;go_wp2_with fail;go_roundw
         case rel=>exact ⟨j+1,by omega,by go_num,fun t ht=>by
          by_cases e:t=j
          ·subst e;exact hlj
          ·exact xh.out t R5,xb.trans ((below_regrown wr dq xo).mono xb.size)⟩
         case measure=>simp [intOf];omega
       ·go_wp2_with fail
        go_roundw
        case rel=>exact ⟨k+1,by omega,by go_num,fun t ht j' hj'=>by
         by_cases e:t=k
         ·subst e;exact xh.out j' R5
         ·exact xe.out t R5 j' hj',xb⟩
        case measure=>simp [intOf];omega
     ·have hL:fL g:=fun i hi j hj=>xe.out i R5 j hj
      have xx:bI g 0 true:=L4a ⟨rfl,rfl,hL⟩;go_wp2_with fail;clear k0;go_loopw [9] (fun i wr=>∃k:Nat,k<=g.n/\i=J k/\(∀i,i < k->(B6 g (g.f i)).Fits)/\L0d W1 wr) (fun i _=>g.n - (intOf i).toNat)
      case atStart=>exact ⟨0,L4c _,rfl,fun j hj=>by omega,xb⟩
      case round =>
       clear xe xb xj xk xa hlt;obtain⟨k,hk,rfl,xc,xb⟩:=hrel;have xe:=(show Hid _ from xc);clear xc;have xj:=xb.size;have xk:w.heap.size < wr.heap.size:=by omega
       have xa:L0d w wr:=xd.trans (xb.mono R5);have k0:wr.cell? ⟨w.heap.size,0,none⟩=some (.slice (some ⟨g.b,g.o,none⟩) g.n g.c):=by rw [xb.cell (by show w.heap.size < W1.heap.size;omega)];exact xn
       by_cases hlt:k < g.n
       ·obtain ⟨c0,c1,c2⟩:=HC.out k hlt
        rw[<- xa.cell (p:=⟨g.b,_,none⟩) hb] at c0 c1 c2;have xu:g.b < wr.heap.size:=by omega
        have HH:Hid (∀W,L0d wr W->Calls prog 98 #[.agg #[.slice (some ⟨g.b,g.o,none⟩) g.n g.c],.agg #[J (g.f k).p,J (g.f k).l,.slice (g.f k).a (g.f k).n (g.f k).c]] W fun e w'=>V7 g (g.f k) W e w'):=by
         intro W hW;have xz:L0d w W:=xa.trans (hW.mono xa.size);rw[<- HA.out];exact wI w.heap.size g (g.f k) W (L5a xa.size hW.size) (hg.below xz) ((hg.2.2 k hlt).below xz) (nG hS hL hlt)
        go_wp2_with fail;go_region_with ((go_at_call 98;refine (HH.out _ ?_).mono ?_;exact (L3b _ _).drew;rintro e w2 ⟨v,ok,rfl,xf,xi⟩))
        all_goals
         have yj:L0d w w2:=D7 xi xa.drew (by show w.heap.size<=wr.heap.size;omega);have yd:L0d W1 w2:=D7 xi xb.drew (by show W1.heap.size<=wr.heap.size;omega);clear xi k0 c0 c1 c2 HH
         cases ok
         ·have xw:¬(B6 g (g.f k)).Fits:=fun h=>by have:=xf.2 h;cases this
          have yg:=(show Hid _ from xw);clear xw xf;go_wp2_with fail;go_ret2;exact U6 3 k rfl (L4b ⟨xq,L4b ⟨xx,L4a ⟨L4b ⟨rfl,k,rfl,hlt,yg.out,xe.out⟩,rfl⟩⟩⟩) yj
         ·have xm:=xf.1 rfl
          have xp:=(show Hid _ from xm);clear xm xf;go_wp2_with fail;go_roundw
          case rel=>exact ⟨k+1,by omega,by go_num,fun t ht=>by
           by_cases e:t=k
           ·subst e;exact xp.out
           ·exact xe.out t R5,yd⟩
          case measure=>simp [intOf];omega
       ·go_wp2_with fail
        go_ret2;exact U6 0 0 rfl (L4b ⟨xq,L4b ⟨xx,L4b ⟨L4a ⟨rfl,rfl,fun i hi=>xe.out i R5⟩,rfl,rfl⟩⟩⟩) xa
 ·have hB:L0d w (w.alloc (Obj.cells #[.slice g.a g.n g.c] 41)):=(L3b _ _).alloc (L1c _) _
  by_cases h0:g.n < 1
  ·go_enter func59,ntmps59
   go_wp2
   go_ret2;exact U6 1 0 rfl (L4a ⟨L4b (L4a ⟨rfl,rfl,h8⟩),rfl⟩) hB
  ·have h9:8 < g.n:=by omega
   go_enter func59,ntmps59;go_wp2
   go_ret2;exact U6 1 0 rfl (L4a ⟨L4b (L4a ⟨rfl,rfl,h8⟩),rfl⟩) hB
end Go.Proofs.YtbkmgoffiigdbaaGreatDoor
