import Derived.Test.YtbkmgoffiigdbaaGreatDoorVDh
import Derived.Test.YtbkmgoffiigdbaaGreatDoorVEa
import Derived.Test.YtbkmgoffiigdbaaGreatDoorVFb
namespace Go.Proofs.YtbkmgoffiigdbaaGreatDoor
open Go.RowKit Go.Sort Go.Proofs.Tryz
set_option maxHeartbeats 4000000
set_option maxRecDepth 100000
theorem nP (a b:Option Addr) (n c m d:Nat) (p l op x:Int) (w:World) (ht:Tab w) (h0:0<=l) (h8:l<=8) (hn:n<=1152921504606846976) (hm:m<=1152921504606846976) :
  Calls prog 174 #[.agg #[.slice a n c],.agg #[.int .i64 p,.int .i64 l,.slice b m d],.agg #[.int .i64 op,.int .i64 x]] w fun e w'=>e=.returned (.bool (E9 n l m op x))/\Below w.heap.size w w':=by
 cases hin:A9 op 0 27 with
 | false =>
  have e:E9 n l m op x=false:=by
   have:¬(0<=op/\op<=27):=fun h=>by rw [I6 h.1 h.2] at hin;cases hin
   cases hl:E9 n l m op x with
   | false=>rfl
   | true=>exact absurd (iL hl) this
  rw[e];exact qA a b n c m d p l x op w hin
 | true =>
  obtain⟨o0,xa⟩:=E4.1 hin;obtain⟨k,rfl⟩:=Int.eq_ofNat_of_zero_le o0;have hk:k < 28:=by omega
  have hc:=(ht.2 k hk).2.2.2.1;by_cases h1:k=0
  ·rw [show M7 k=255 by simp [M7,h1]] at hc
   rw[show E9 n l m k x=true by unfold E9;rw [if_pos R4]];exact pT a b n c m d p l x k w ht.1 hk hc
  by_cases h2:k=2\/k=3
  ·rw [show M7 k=259 by unfold M7;rw [if_neg h1,if_pos h2]] at hc
   rw[show E9 n l m k x=A9 x 0 (l - 1) by unfold E9;rw [if_neg R4,if_pos R4]];exact pV a b n c m d p l x k w ht.1 hk hc h0 h8
  by_cases h3:k=12\/k=13
  ·rw [show M7 k=270 by unfold M7;rw [if_neg h1,if_neg h2,if_pos h3]] at hc
   rw[show E9 n l m k x=A9 x 0 (m - 1) by unfold E9;rw [if_neg R4,if_neg R4,if_pos R4]];exact pW a b n c m d p l x k w ht.1 hk hc hm
  by_cases h4:k=14
  ·rw [show M7 k=273 by unfold M7;rw [if_neg h1,if_neg h2,if_neg h3,if_pos h4]] at hc
   rw[show E9 n l m k x=A9 x 0 (n - 1) by unfold E9;rw [if_neg R4,if_neg R4,if_neg R4,if_pos R4]];exact pX a b n c m d p l x k w ht.1 hk hc hn
  by_cases h5:k=16
  ·rw [show M7 k=276 by unfold M7;rw [if_neg h1,if_neg h2,if_neg h3,if_neg h4,if_pos h5]] at hc
   rw[show E9 n l m k x=A9 x 0 8 by unfold E9;rw [if_neg R4,if_neg R4,if_neg R4,if_neg R4,if_pos R4]];exact pY a b n c m d p l x k w ht.1 hk hc
  by_cases h6:k=19\/k=20
  ·rw [show M7 k=280 by unfold M7;rw [if_neg h1,if_neg h2,if_neg h3,if_neg h4,if_neg h5,if_pos h6]] at hc
   rw[show E9 n l m k x=A9 x 0 7 by unfold E9;rw [if_neg R4,if_neg R4,if_neg R4,if_neg R4,if_neg R4,if_pos R4]];exact pZ a b n c m d p l x k w ht.1 hk hc
  ·rw [show M7 k=257 by unfold M7;rw [if_neg h1,if_neg h2,if_neg h3,if_neg h4,if_neg h5,if_neg h6]] at hc
   rw[show E9 n l m k x=(x == 0) by unfold E9;rw [if_neg R4,if_neg R4,if_neg R4,if_neg R4,if_neg R4,if_neg R4,hin,Bool.true_and]];exact pU a b n c m d p l x k w ht.1 hk hc
theorem eM {k p l:Int} {n:Nat} (h:Z5 k p l n=true):1<=n/\n<=60/\0<=l/\l<=8/\0<=p/\p<=l:=by
 simp only[Z5,Bool.and_eq_true,E4] at h;omega
def T9 (g:PgR):Prop:=1<=g.n/\g.n<=8/\∀i,i < g.n->Z5 i (g.f i).p (g.f i).l (g.f i).n=true
def N0 (g:PgR) (i j:Nat):Bool:=E9 g.n (g.f i).l (g.f i).n ((g.f i).op j) ((g.f i).ar j)
def Z8 (g:PgR) (at_:Int) (ok:Bool):Prop :=
 (ok=true/\at_=0/\∀i,i < g.n->∀j,j < (g.f i).n->N0 g i j=true) \/
 (ok=false/\∃k j:Nat,at_=1000*(k:Int)+(j:Int)/\k < g.n/\(∀i,i < k->∀j,j < (g.f i).n->N0 g i j=true)/\rR (g.f k).n (N0 g k) j)
def M8 (g:PgR) (at_:Int) (ok:Bool):Prop :=
 (ok=true/\at_=0/\∀i,i < g.n->(B6 g (g.f i)).Fits) \/
 (ok=false/\∃k:Nat,at_=k/\k < g.n/\¬(B6 g (g.f k)).Fits/\∀i,i < k->(B6 g (g.f i)).Fits)
theorem T9.bd {g:PgR} (h:T9 g) {i:Nat} (hi:i < g.n):1<=(g.f i).n/\(g.f i).n<=60/\0<=(g.f i).l/\(g.f i).l<=8/\0<=(g.f i).p/\(g.f i).p<=(g.f i).l:=eM (h.2.2 i hi)
def rN (g:PgR) (w:World) (e:Ending) (w':World):Prop:=∃at_ ok,e=.returned (.tuple #[.int .i64 at_,.bool ok])/\Z8 g at_ ok/\Below w.heap.size w w'
theorem sD {g:PgR} {w:World} {e:Ending} {w':World} (at_:Int) (ok:Bool) (he:e=.returned (.tuple #[.int .i64 at_,.bool ok])) (hs:Z8 g at_ ok) (hb:Below w.heap.size w w'):rN g w e w':=⟨at_,ok,he,hs,hb⟩
theorem nG (g:PgR) (w:World) (hg:I7 w.heap.size w g) (hS:T9 g) (ht:Tab w) :
  Calls prog 132 #[.agg #[.slice g.a g.n g.c]] w fun e w'=>rN g w e w':=by
 have hn:=hg.1;have yf:=hS.1;have yi:=hS.2.1;obtain⟨ha,hb,hc⟩:=hg.2.1 R4;have HC:=(show Hid _ from hc);clear hc;have xx:=ht.1;have xr:(w.alloc (Obj.cells #[.slice g.a g.n g.c] 41)).cell? ⟨w.heap.size,0,none⟩=some (.slice g.a g.n g.c):=by go_simp
 rw[ha] at xr ⊢;clear ha;go_enter func132,ntmps132;go_wp2
 have xd:Below w.heap.size w (w.alloc (Obj.cells #[.slice (some ⟨g.b,g.o,none⟩) g.n g.c] 41)):=(Below.refl _ _).alloc (L1c _) _;have yh:(w.alloc (Obj.cells #[.slice (some ⟨g.b,g.o,none⟩) g.n g.c] 41)).heap.size=w.heap.size+1:=by simp
 generalize w.alloc (Obj.cells #[.slice (some ⟨g.b,g.o,none⟩) g.n g.c] 41)=W1 at *
 go_loopw [11] (fun i wr=>∃k:Nat,k<=g.n/\i=.int .i64 k/\(∀i,i < k->∀j,j < (g.f i).n->N0 g i j=true)/\Below W1.heap.size W1 wr) (fun i _=>g.n - (intOf i).toNat)
 case atStart=>exact ⟨0,Nat.zero_le _,rfl,fun j hj=>by omega,Below.refl _ _⟩
 case round =>
  obtain⟨k,hk,rfl,xk,xc⟩:=hrel;have xl:=(show Hid _ from xk);clear xk;have ye:=xc.size;by_cases hlt:k < g.n
  ·obtain ⟨c0,c1,c2⟩:=HC.out k hlt
   have xa:Below w.heap.size w wr:=xd.trans (xc.mono R4);rw[<- xa.cell (p:=⟨g.b,_,none⟩) hb] at c0 c1 c2;have xw:g.b < wr.heap.size:=by omega
   obtain⟨xt,ya,xo,xn,_,_⟩:=hS.bd hlt;obtain⟨xs,yd,xq⟩:=(hg.2.2 k hlt).2 xt;rw[xs] at c2;have xv:=(show Hid _ from xq);clear xq xs;go_wp2
   have xg:Below wr.heap.size wr (wr.alloc (Obj.cells #[.int .i64 (g.f k).p,.int .i64 (g.f k).l,.slice (some ⟨(g.f k).b,(g.f k).o,none⟩) (g.f k).n (g.f k).c] 163)):=(Below.refl _ _).alloc (L1c _) _;have e0:(wr.alloc (Obj.cells #[.int .i64 (g.f k).p,.int .i64 (g.f k).l,.slice (some ⟨(g.f k).b,(g.f k).o,none⟩) (g.f k).n (g.f k).c] 163)).cell? ⟨wr.heap.size,0,none⟩=some (.int .i64 (g.f k).p):=by go_simp
   have e1:(wr.alloc (Obj.cells #[.int .i64 (g.f k).p,.int .i64 (g.f k).l,.slice (some ⟨(g.f k).b,(g.f k).o,none⟩) (g.f k).n (g.f k).c] 163)).cell? ⟨wr.heap.size,1,none⟩=some (.int .i64 (g.f k).l):=by go_simp
   have e2:(wr.alloc (Obj.cells #[.int .i64 (g.f k).p,.int .i64 (g.f k).l,.slice (some ⟨(g.f k).b,(g.f k).o,none⟩) (g.f k).n (g.f k).c] 163)).cell? ⟨wr.heap.size,2,none⟩=some (.slice (some ⟨(g.f k).b,(g.f k).o,none⟩) (g.f k).n (g.f k).c):=by go_simp
   have xu:(wr.alloc (Obj.cells #[.int .i64 (g.f k).p,.int .i64 (g.f k).l,.slice (some ⟨(g.f k).b,(g.f k).o,none⟩) (g.f k).n (g.f k).c] 163)).heap.size=wr.heap.size+1:=by simp
   generalize wr.alloc (Obj.cells #[.int .i64 (g.f k).p,.int .i64 (g.f k).l,.slice (some ⟨(g.f k).b,(g.f k).o,none⟩) (g.f k).n (g.f k).c] 163)=WF at *
   clear c0 c1 c2;obtain⟨fb,xj⟩:∃fb,fb=wr.heap.size:=⟨_,rfl⟩
   rw[<- xj] at e0 e1 e2 xu xg ⊢;have xe:Below W1.heap.size W1 WF:=xc.trans (xg.mono R4);have xz:W1.heap.size<=fb:=by omega
   clear xj xc xa xw ye;go_loopw [19] (fun i wx=>∃j:Nat,j<=(g.f k).n/\i=.int .i64 j/\(∀t,t < j->N0 g k t=true)/\Below WF.heap.size WF wx) (fun i _=>(g.f k).n - (intOf i).toNat)
   case atStart=>exact ⟨0,Nat.zero_le _,rfl,fun j hj=>by omega,Below.refl _ _⟩
   case round =>
    obtain⟨j,hj,rfl,xf,xb⟩:=hrel;have xh:=(show Hid _ from xf);clear xf;have yb:=xb.size;by_cases hjl:j < (g.f k).n
    ·obtain ⟨o0,o1⟩:=xv.out j hjl
     have xa:Below w.heap.size w wr:=(xd.trans (xe.mono R4)).trans (xb.mono R4);rw[<- xa.cell (p:=⟨(g.f k).b,_,none⟩) yd] at o0 o1;have yc:(g.f k).b < wr.heap.size:=by omega
     have xy:fb < wr.heap.size:=by omega
     have yg:w.heap.size < wr.heap.size:=by omega
     have k0:wr.cell? ⟨w.heap.size,0,none⟩=some (.slice (some ⟨g.b,g.o,none⟩) g.n g.c):=by rw [(xe.trans (xb.mono R4)).cell (by show w.heap.size < W1.heap.size;omega)];exact xr
     have x0:wr.cell? ⟨fb,0,none⟩=some (.int .i64 (g.f k).p):=by rw [xb.cell (by show fb < WF.heap.size;omega)];exact e0
     have x1:wr.cell? ⟨fb,1,none⟩=some (.int .i64 (g.f k).l):=by rw [xb.cell (by show fb < WF.heap.size;omega)];exact e1
     have x2:wr.cell? ⟨fb,2,none⟩=some (.slice (some ⟨(g.f k).b,(g.f k).o,none⟩) (g.f k).n (g.f k).c):=by rw [xb.cell (by show fb < WF.heap.size;omega)];exact e2
     have xm:Tab wr:=ht.below xx xa;have xi:E9 g.n (g.f k).l (g.f k).n ((g.f k).op j) ((g.f k).ar j)=N0 g k j:=rfl;have HI:Hid (∀W,Below wr.heap.size wr W->Calls prog 174 #[.agg #[.slice (some ⟨g.b,g.o,none⟩) g.n g.c],.agg #[.int .i64 (g.f k).p,.int .i64 (g.f k).l,.slice (some ⟨(g.f k).b,(g.f k).o,none⟩) (g.f k).n (g.f k).c],.agg #[.int .i64 ((g.f k).op j),.int .i64 ((g.f k).ar j)]] W fun e w'=>e=.returned (.bool (N0 g k j))/\Below W.heap.size W w'):=by
      intro W hW;rw[<- xi];exact nP _ _ _ _ _ _ _ _ _ _ W (xm.below xm.1 hW) xo xn hn R4
     clear xi xm
     cases hlj:N0 g k j
     ·rw [hlj] at HI
      go_wp2_with fail;refine (HI.out _ P4).mono ?_;rintro e w2 ⟨rfl,xp⟩;go_wp2_with fail;go_ret2;exact sD _ false rfl (Or.inr ⟨rfl,k,j,rfl,hlt,xl.out,hjl,hlj,xh.out⟩) (C6 xp ((xa.alloc R4 _)) Q1)
     ·rw [hlj] at HI
      go_wp2_with fail;refine (HI.out _ P4).mono ?_;rintro e w2 ⟨rfl,xp⟩;go_wp2_with fail;go_roundw
      case rel=>exact ⟨j+1,by omega,by go_num,fun t ht=>by
       by_cases e:t=j
       ·subst e;exact hlj
       ·exact xh.out t R4,C6 xp ((xb.alloc R4 _)) Q1⟩
      case measure=>simp [intOf];omega
    ·go_wp2_with fail
     go_roundw
     case rel=>exact ⟨k+1,by omega,by go_num,fun t ht j' hj'=>by
      by_cases e:t=k
      ·subst e;exact xh.out j' R4
      ·exact xl.out t R4 j' hj',xe.trans (xb.mono R4)⟩
     case measure=>simp [intOf];omega
  ·go_wp2
   go_ret2;exact sD 0 true rfl (Or.inl ⟨rfl,rfl,fun i hi j hj=>xl.out i R4 j hj⟩) (xd.trans (xc.mono R4))
section
variable {a b:Int} {e:Ending} {g:PgR} {w w':World} {x y:Bool}
def dV (g:PgR):Prop:=∀i,i < g.n->∀j,j < (g.f i).n->N0 g i j=true
theorem kT (hS:T9 g) (hL:dV g) {i:Nat} (hi:i < g.n):uM g (g.f i) :=
 ⟨(hS.bd hi).1,(hS.bd hi).2.1,fun j hj=>by have:=hS.bd hj;omega,hL i hi⟩
def a1T (g:PgR) (w:World) (e:Ending) (w':World):Prop:=∃at_ ok,e=.returned (.tuple #[.int .i64 at_,.bool ok])/\M8 g at_ ok/\Below w.heap.size w w'
theorem a2D (at_:Int) (ok:Bool) (he:e=.returned (.tuple #[.int .i64 at_,.bool ok])) (hs:M8 g at_ ok) (hb:Below w.heap.size w w'):a1T g w e w':=⟨at_,ok,he,hs,hb⟩
theorem jI (g:PgR) (w:World) (hg:I7 w.heap.size w g) (hS:T9 g) (hL:dV g) (ht:Tab w) :
  Calls prog 133 #[.agg #[.slice g.a g.n g.c]] w fun e w'=>a1T g w e w':=by
 have hn:=hg.1;have xo:=hS.1;have xt:=hS.2.1;obtain⟨ha,hb,hc⟩:=hg.2.1 R4;have HC:=(show Hid _ from hc);clear hc;have xk:=ht.1;have HA:=(show Hid _ from ha);have xm:(w.alloc (Obj.cells #[.slice g.a g.n g.c] 41)).cell? ⟨w.heap.size,0,none⟩=some (.slice g.a g.n g.c):=by go_simp
 rw[ha] at xm ⊢;clear ha;go_enter func133,ntmps133;go_wp2
 have xd:Below w.heap.size w (w.alloc (Obj.cells #[.slice (some ⟨g.b,g.o,none⟩) g.n g.c] 41)):=(Below.refl _ _).alloc (L1c _) _;have xr:(w.alloc (Obj.cells #[.slice (some ⟨g.b,g.o,none⟩) g.n g.c] 41)).heap.size=w.heap.size+1:=by simp
 generalize w.alloc (Obj.cells #[.slice (some ⟨g.b,g.o,none⟩) g.n g.c] 41)=W1 at *
 go_loopw [11] (fun i wr=>∃k:Nat,k<=g.n/\i=.int .i64 k/\(∀i,i < k->(B6 g (g.f i)).Fits)/\Below W1.heap.size W1 wr) (fun i _=>g.n - (intOf i).toNat)
 case atStart=>exact ⟨0,Nat.zero_le _,rfl,fun j hj=>by omega,Below.refl _ _⟩
 case round =>
  obtain⟨k,hk,rfl,xf,xa⟩:=hrel;have xg:=(show Hid _ from xf);clear xf;have xs:=xa.size;by_cases hlt:k < g.n
  ·obtain ⟨c0,c1,c2⟩:=HC.out k hlt
   have xb:Below w.heap.size w wr:=xd.trans (xa.mono R4);rw[<- xb.cell (p:=⟨g.b,_,none⟩) hb] at c0 c1 c2;have xp:g.b < wr.heap.size:=by omega
   have xq:w.heap.size < wr.heap.size:=by omega
   have k0:wr.cell? ⟨w.heap.size,0,none⟩=some (.slice (some ⟨g.b,g.o,none⟩) g.n g.c):=by rw [xa.cell (by show w.heap.size < W1.heap.size;omega)];exact xm
   have HH:Hid (∀W,Below wr.heap.size wr W->Calls prog 175 #[.agg #[.slice (some ⟨g.b,g.o,none⟩) g.n g.c],.agg #[.int .i64 (g.f k).p,.int .i64 (g.f k).l,.slice (g.f k).a (g.f k).n (g.f k).c]] W fun e w'=>O5 g (g.f k) W e w'):=by
    intro W hW;have xh:Below w.heap.size w W:=xb.trans (hW.mono xb.size);rw[<- HA.out];exact nO w.heap.size g (g.f k) W xk (Nat.le_trans xb.size hW.size) (hg.below xh) ((hg.2.2 k hlt).below xh) (kT hS hL hlt) (ht.below xk xh)
   go_wp2_with fail;refine (HH.out _ P4).mono ?_;rintro e w2 ⟨v,ok,rfl,xc,xl⟩
   cases ok
   ·have xj:¬(B6 g (g.f k)).Fits:=fun h=>by have:=xc.2 h;cases this
    have xn:=(show Hid _ from xj);clear xj xc;go_wp2_with fail;go_ret2;exact a2D k false rfl (Or.inr ⟨rfl,k,rfl,hlt,xn.out,xg.out⟩) (C6 xl ((xb.alloc R4 _)) Q1)
   ·have xe:=xc.1 rfl
    have xi:=(show Hid _ from xe);clear xe xc;go_wp2_with fail;go_roundw
    case rel=>exact ⟨k+1,by omega,by go_num,fun t ht=>by
     by_cases e:t=k
     ·subst e;exact xi.out
     ·exact xg.out t R4,C6 xl ((xa.alloc R4 _)) Q1⟩
    case measure=>simp [intOf];omega
  ·go_wp2
   go_ret2;exact a2D 0 true rfl (Or.inl ⟨rfl,rfl,fun i hi=>xg.out i R4⟩) (xd.trans (xa.mono R4))
def I8 (g:PgR) (e a:Int):Prop :=
 (X2 g a false/\e=1)\/(X2 g 0 true/\((Z8 g a false/\e=2)\/(Z8 g 0 true/\((M8 g a false/\e=3)\/(M8 g 0 true/\e=0/\a=0)))))
theorem X2.all (h:X2 g a true):T9 g/\a=0:=by
 rcases h with ⟨_,h0,h1,h2,h3⟩ | ⟨h,_⟩ | ⟨h,_⟩
 ·exact ⟨⟨h1,h2,h3⟩,h0⟩
 ·cases h
 ·cases h
theorem Z8.all (h:Z8 g a true):dV g/\a=0:=by
 rcases h with ⟨_,h0,h1⟩ | ⟨h,_⟩
 ·exact ⟨h1,h0⟩
 ·cases h
theorem M8.zero (h:M8 g a true):a=0:=by
 rcases h with ⟨_,h0,_⟩ | ⟨h,_⟩
 ·exact h0
 ·cases h
theorem X2.unique (h:X2 g a x) (h':X2 g b y):a=b/\x=y:=by
 rcases h with ⟨rfl,rfl,h1,h2,h3⟩ | ⟨rfl,rfl,h1⟩ | ⟨rfl,h1,h2,k,rfl,hk⟩ <;> rcases h' with ⟨rfl,rfl,g1,g2,g3⟩ | ⟨rfl,rfl,g1⟩ | ⟨rfl,g1,g2,k',rfl,xa⟩
 ·exact ⟨rfl,rfl⟩
 ·exact absurd ⟨h1,h2⟩ g1
 ·have:=h3 k' xa.1;have h4:=xa.2.1;simp only at h4;rw [this] at h4;cases h4
 ·exact absurd ⟨g1,g2⟩ h1
 ·exact ⟨rfl,rfl⟩
 ·exact absurd ⟨g1,g2⟩ h1
 ·have:=g3 k hk.1;have h4:=hk.2.1;simp only at h4;rw [this] at h4;cases h4
 ·exact absurd ⟨h1,h2⟩ g1
 ·rw [hk.unique xa];exact ⟨rfl,rfl⟩
theorem Z8.unique (h:Z8 g a x) (h':Z8 g b y):a=b/\x=y:=by
 rcases h with ⟨rfl,rfl,h1⟩ | ⟨rfl,k,j,rfl,hk,h1,hj⟩ <;> rcases h' with ⟨rfl,rfl,g1⟩ | ⟨rfl,k',j',rfl,xb,g1,xa⟩
 ·exact ⟨rfl,rfl⟩
 ·have:=h1 k' xb j' xa.1;rw [xa.2.1] at this;cases this
 ·have:=g1 k hk j hj.1;rw [hj.2.1] at this;cases this
 ·rcases Nat.lt_trichotomy k k' with hl | rfl | hl
  ·have:=g1 k hl j hj.1;rw [hj.2.1] at this;cases this
  ·rw [hj.unique xa];exact ⟨rfl,rfl⟩
  ·have:=h1 k' hl j' xa.1;rw [xa.2.1] at this;cases this
theorem M8.unique (h:M8 g a x) (h':M8 g b y):a=b/\x=y:=by
 rcases h with ⟨rfl,rfl,h1⟩ | ⟨rfl,k,rfl,hk,h1,hj⟩ <;> rcases h' with ⟨rfl,rfl,g1⟩ | ⟨rfl,k',rfl,xb,g1,xa⟩
 ·exact ⟨rfl,rfl⟩
 ·exact absurd (h1 k' xb) g1
 ·exact absurd (g1 k hk) h1
 ·rcases Nat.lt_trichotomy k k' with hl | rfl | hl
  ·exact absurd (xa k hl) h1
  ·exact ⟨rfl,rfl⟩
  ·exact absurd (hj k' hl) g1
theorem I8.unique {e e' a':Int} (h:I8 g e a) (h':I8 g e' a'):e=e'/\a=a':=by
 rcases h with ⟨h1,rfl⟩ | ⟨h1,⟨h2,rfl⟩ | ⟨h2,⟨h3,rfl⟩ | ⟨h3,rfl,rfl⟩⟩⟩ <;> rcases h' with ⟨g1,rfl⟩ | ⟨g1,⟨g2,rfl⟩ | ⟨g2,⟨g3,rfl⟩ | ⟨g3,rfl,rfl⟩⟩⟩
 all_goals first
  | exact ⟨rfl,rfl⟩
  | exact absurd (h1.unique g1).2 R3
  | exact absurd (h2.unique g2).2 R3
  | exact absurd (h3.unique g3).2 R3
  | exact ⟨rfl,(h1.unique g1).1⟩
  | exact ⟨rfl,(h2.unique g2).1⟩
  | exact ⟨rfl,(h3.unique g3).1⟩
def eO (g:PgR) (w:World) (e:Ending) (w':World):Prop:=∃x a,e=.returned (.tuple #[.int .i64 x,.int .i64 a])/\I8 g x a/\Below w.heap.size w w'
theorem N9 (x a:Int) (he:e=.returned (.tuple #[.int .i64 x,.int .i64 a])) (hs:I8 g x a) (hb:Below w.heap.size w w'):eO g w e w':=⟨x,a,he,hs,hb⟩
theorem oJ (g:PgR) (w:World) (hg:I7 w.heap.size w g) (ht:Tab w) :
  Calls prog 95 #[.agg #[.slice g.a g.n g.c]] w fun e w'=>eO g w e w':=by
 have xj:=ht.1;go_enter func95,ntmps95;go_wp2_with fail;have xf:Below w.heap.size w (w.alloc (Obj.cells #[.slice g.a g.n g.c] 41)):=(Below.refl _ _).alloc (L1c _) _;have k0:(w.alloc (Obj.cells #[.slice g.a g.n g.c] 41)).cell? ⟨w.heap.size,0,none⟩=some (.slice g.a g.n g.c):=by go_simp
 have xu:(w.alloc (Obj.cells #[.slice g.a g.n g.c] 41)).heap.size=w.heap.size+1:=by simp
 generalize w.alloc (Obj.cells #[.slice g.a g.n g.c] 41)=W at *
 have xt:I7 W.heap.size W g:=(hg.below xf).mono xf.size;refine (lJ g W xt).mono ?_;rintro e w2 ⟨xp,xn,rfl,xc,xe⟩;have xb:Below w.heap.size w w2:=xf.trans (xe.mono xf.size);have k2:w2.cell? ⟨w.heap.size,0,none⟩=some (.slice g.a g.n g.c):=by rw [xe.cell (by show w.heap.size < W.heap.size;omega)];exact k0
 have xm:=xe.size
 cases xn
 ·go_wp2_with fail
  go_ret2;exact N9 1 xp rfl (Or.inl ⟨xc,rfl⟩) xb
 obtain⟨hS,rfl⟩:=xc.all;clear xe k0;go_wp2_with fail;refine (nG g w2 ((hg.below xb).mono xb.size) hS (ht.below xj xb)).mono ?_;rintro e w3 ⟨xk,xs,rfl,xd,xg⟩;have xa:Below w.heap.size w w3:=xb.trans (xg.mono xb.size);have k3:w3.cell? ⟨w.heap.size,0,none⟩=some (.slice g.a g.n g.c):=by rw [xg.cell (by show w.heap.size < w2.heap.size;omega)];exact k2
 have xq:=xg.size
 cases xs
 ·go_wp2_with fail
  go_ret2;exact N9 2 xk rfl (Or.inr ⟨xc,Or.inl ⟨xd,rfl⟩⟩) xa
 obtain⟨hL,rfl⟩:=xd.all;clear xg k2;go_wp2_with fail;refine (jI g w3 ((hg.below xa).mono xa.size) hS hL (ht.below xj xa)).mono ?_;rintro e w4 ⟨xr,xo,rfl,xh,xl⟩;have xi:Below w.heap.size w w4:=xa.trans (xl.mono xa.size)
 cases xo
 ·go_wp2_with fail
  go_ret2;exact N9 3 xr rfl (Or.inr ⟨xc,Or.inr ⟨xd,Or.inl ⟨xh,rfl⟩⟩⟩) xi
 obtain rfl:=xh.zero;go_wp2_with fail;go_ret2;exact N9 0 0 rfl (Or.inr ⟨xc,Or.inr ⟨xd,Or.inr ⟨xh,rfl,rfl⟩⟩⟩) xi
end
theorem wA:(prog.info? 90).map (fun i=>(i.zero,i.size,i.bytes))=some (some (.agg #[.int .u8 0,.slice none 0 0]),2,32):=by kernel_rfl
def K5:ObR:=⟨0,.slice none 0 0,[]⟩
def a1R (n:Nat) (w:World) (e:Ending) (w':World):Prop :=
 ∃b,e=.returned (.agg #[.slice (some ⟨b,0,none⟩) n n,.slice none 0 0])/\w'.ownsRow w.heap.size 90 2 (.slice (some ⟨b,0,none⟩) n n) n ((List.replicate n K5).flatMap ObR.cells)/\Below w.heap.size w w'
theorem tD (n:Nat):(madeCells #[.int .u8 0,.slice none 0 0] (n*2)).toList=(List.replicate n K5).flatMap ObR.cells:=by
 rw[a5y];induction n with
 | zero=>rfl
 | succ n ih=>rw [List.replicate_succ,List.replicate_succ,List.flatten_cons,ih];rfl
theorem tG (n:Nat) (w:World) (hn:n<=40):Calls prog 117 #[.int .i64 (n:Int)] w fun e w'=>a1R n w e w':=by
 obtain⟨xd,hi,hz,xb,xa⟩:=info_parts wA;have xc:Hid (∀W:World,(Instr.makeSlice 74 (.int .i64 (n:Int)) (.int .i64 (n:Int))).run prog W=.ok (.slice (some ⟨W.heap.size,0,none⟩) n n) (W.alloc (.cells (madeCells #[.int .u8 0,.slice none 0 0] (n*2)) 90))):=by
  intro W;have hr:=run_make (P:=prog) W 74 90 xd _ underlying74 hi hz .i64 .i64 n n R4 (Int.le_refl _) (by rw [xa];omega) R4;simpa [xb,Value.cells] using hr
 have xe:=xc.out;clear hi hz xb xa xc;go_enter func117,ntmps117;go_wp2_with fail;refine bodyPost_ret (v:=.agg #[.slice (some ⟨w.heap.size+1,0,none⟩) n n,.slice none 0 0]) (by simp [results,results117,go_sem]) rfl ⟨_,rfl,?_,P8⟩;have:=World.ownsRow_lit (base:=w.heap.size) (e:=90) (size:=2) (w.alloc (Obj.cells #[.slice (some ⟨w.heap.size+1,0,none⟩) n n,.slice none 0 0] 105)) (madeCells #[.int .u8 0,.slice none 0 0] (n*2)) n R5 Q5 (by rw [size_madeCells])
 rw[tD] at this;simpa using this
def Y6 (g g':PgR):Prop:=g'.n=g.n/\∀j,j < g.n->(g'.f j).p=(g.f j).p/\(g'.f j).l=(g.f j).l/\(g'.f j).n=(g.f j).n/\(g'.f j).op=(g.f j).op/\(g'.f j).ar=(g.f j).ar
structure rM (g:PgR) (cap:Nat) (R:McR):Prop where
 st:R.st=0
 out:R.out=[]
 frs:∃lv,R.frs=[⟨0,0,lv,.slice none 0 0,List.replicate (g.f 0).l.toNat (0,0),[]⟩]
 obs:R.obs=List.replicate cap K5
 ov:R.ov=.slice none 0 0
 dr:R.dr=[]
def O6 (mb hb:Nat):Own:=fun k=>if k=mb then some .mach else if k=hb then some .slots else none
theorem qI {w4:World} {g':PgR} {hb cap base:Nat} (hpg:I7 w4.heap.size w4 g') (ht:Tab w4) (hrow:w4.ownsRow base 90 2 (.slice (some ⟨hb,0,none⟩) cap cap) cap ((List.replicate cap K5).flatMap ObR.cells)) (hne:∀k,g'.blk k->k≠hb) (h0:hb≠0) :
  A4 (w4.alloc (Obj.cells #[.slice g'.a g'.n g'.c,.int .i64 0,.slice none 0 0,.slice none 0 0,.slice (some ⟨hb,0,none⟩) cap cap,.slice none 0 0] 107)) (O6 w4.heap.size hb) w4.heap.size g'
   ⟨0,.slice none 0 0,[],.slice none 0 0,[],.slice (some ⟨hb,0,none⟩) cap cap,List.replicate cap K5,.slice none 0 0,[]⟩:=by
 have xb:hb < w4.heap.size:=(O9 hrow).2;have xc:(w4.alloc (Obj.cells #[.slice g'.a g'.n g'.c,.int .i64 0,.slice none 0 0,.slice none 0 0,.slice (some ⟨hb,0,none⟩) cap cap,.slice none 0 0] 107)).heap.size=w4.heap.size+1:=by simp
 have xa:∀k,k < w4.heap.size->(w4.alloc (Obj.cells #[.slice g'.a g'.n g'.c,.int .i64 0,.slice none 0 0,.slice none 0 0,.slice (some ⟨hb,0,none⟩) cap cap,.slice none 0 0] 107)).heap[k]?=w4.heap[k]?:=fun k hk=>Below.heap_alloc _ _ _ hk
 refine⟨fun k t hk=>?_,by simp [O6],by go_simp,by go_simp,by go_simp,by go_simp,by go_simp,fun j=>by go_simp,⟨World.ownsRow_nil _ _ _ _,fun b hb=>by cases hb⟩,⟨World.ownsRow_nil _ _ _ _,fun b hb=>by cases hb⟩,⟨?_,fun b hb'=>?_⟩,fun i f hf=>by simp at hf,fun i f hf=>by simp at hf,fun j o ho=>?_,
  hpg.held R4 fun k hk=>xa k (hpg.blk_lt hk),fun k hk=>?_,ht.held R4 (xa 0 ht.1),?_,by go_simp,⟨World.ownsRow_nil _ _ _ _,fun b hb=>by cases hb⟩⟩
 ·unfold O6 at hk
  split at hk
  ·omega
  ·split at hk
   ·omega
   ·cases hk
 ·have:=E2 (hrow.alloc (Obj.cells #[.slice g'.a g'.n g'.c,.int .i64 0,.slice none 0 0,.slice none 0 0,.slice (some ⟨hb,0,none⟩) cap cap,.slice none 0 0] 107)) (Nat.zero_le _)
  simpa using this
 ·obtain rfl:hb=b:=by simpa [Value.ownBlock] using hb'
  unfold O6;rw[if_neg R4,if_pos rfl]
 ·have:o=K5:=by
   have:=L2a ho;simp at this;exact this.2
  subst this;exact⟨World.ownsRow_nil _ _ _ _,fun b hb=>by cases hb⟩
 ·have h1:=hpg.blk_lt hk
  have h2:=hne k hk;unfold O6;rw[if_neg R4,if_neg h2]
 ·have:=ht.1
  unfold O6;rw[if_neg R4,if_neg (Ne.symm h0)]
theorem A2.below {own own':Own} {w w':World} (h:A2 own w own' w') {B:Nat} (hB:B<=w.heap.size) (hno:∀k,k < B->own k=none):Below B w w' :=
 ⟨h.os,h.tape,h.output,h.size,fun k hk=>h.block k (L0a hk hB) (hno k hk)⟩
section
variable {Bk C:Nat->Nat} {g:PgR} {q:Nat}
def kW (B:Nat) (w:World) (f:FnR) (b c:Nat):Prop:=w.ownsRow B 165 2 (.slice (some ⟨b,0,none⟩) f.n c) f.n (J5 f)
def yW (g:PgR) (q:Nat) (W1 wr:World) (i:Nat):Prop :=
 ∃(Bk C:Nat->Nat) (cv:Value),wr.cell? ⟨q,0,none⟩=some cv/\wr.frozen? ⟨q,0,none⟩=false/\wr.ownsRow (q+1) 163 3 cv i (E3 g Bk C i) /\
  (∀j,j < i->kW (q+1) wr (g.f j) (Bk j) (C j))/\Below q W1 wr/\q+1<=wr.heap.size
theorem qP {W1 wr w2 w5:World} {i:Nat} {cv:Value} {lb lc cb cc:Nat} {o:Obj} (hown:wr.ownsRow (q+1) 163 3 cv i (E3 g Bk C i))
  (hcopy:∀j,j < i->kW (q+1) wr (g.f j) (Bk j) (C j)) (hbel:Below q W1 wr) (hsz:q+1<=wr.heap.size) (hB2w:Below wr.heap.size wr w2)
  (hcopyN:kW (wr.heap.size+1) w2 (g.f i) lb lc) (hq2:w2.cell? ⟨q,0,none⟩=some cv) (hf2:w2.frozen? ⟨q,0,none⟩=false) (hgrow:(w2.alloc o).grownBy w5 cv.ownBlock)
  (hown5:w5.ownsRow (q+1) 163 3 (.slice (some ⟨cb,0,none⟩) (i+1) cc) (i+1) (E3 g Bk C i++[.int .i64 (g.f i).p,.int .i64 (g.f i).l,.slice (some ⟨lb,0,none⟩) (g.f i).n lc])) :
  w5.cell? ⟨q,0,none⟩=some cv/\w5.frozen? ⟨q,0,none⟩=false/\yW g q W1 (w5.setCell ⟨q,0,none⟩ (.slice (some ⟨cb,0,none⟩) (i+1) cc)) (i+1):=by
 have xk:=hB2w.size;have xb:some q≠cv.ownBlock:=fun e=>by have:=(hown.lt q e.symm).1;omega
 have hq:w5.cell? ⟨q,0,none⟩=some cv:=by
  rw[hgrow.cell_far ⟨q,0,none⟩ Q8 xb,<- hq2];exact L0b (Below.heap_alloc _ _ _ (by show q < _;omega))
 have xg:w5.frozen? ⟨q,0,none⟩=false:=by
  rw[hgrow.frozen_far ⟨q,0,none⟩ Q8 xb,<- hf2];exact L0c (Below.heap_alloc _ _ _ (by show q < _;omega))
 refine⟨hq,xg,?_⟩;have xa:=hown.lt;obtain⟨xf,xd,_,_,_⟩:=J6 hcopyN;have xi:w2.heap.size+1<=w5.heap.size:=by have:=hgrow.size;simpa using this
 have xe:∀b,b < w2.heap.size->cv.ownBlock≠some b->b≠q->(w5.setCell ⟨q,0,none⟩ (.slice (some ⟨cb,0,none⟩) (i+1) cc)).heap[b]?=w2.heap[b]?:=fun b hb xb hbq=>by
  rw[Below.heap_setCell _ _ _ _ hbq,hgrow.block b Q8 (fun e=>xb e.symm)];exact Below.heap_alloc _ _ _ hb
 refine⟨fun j=>if j=i then lb else Bk j,fun j=>if j=i then lc else C j,.slice (some ⟨cb,0,none⟩) (i+1) cc,by go_simp,by go_simp,?_,fun j hj=>?_,?_,by simp;omega⟩
 ·have h1:=ownsRow_setCell_below hown5 (a:=⟨q,0,none⟩) R5 (.slice (some ⟨cb,0,none⟩) (i+1) cc)
  have h2:E3 g (fun j=>if j=i then lb else Bk j) (fun j=>if j=i then lc else C j) (i+1)=E3 g Bk C i++[.int .i64 (g.f i).p,.int .i64 (g.f i).l,.slice (some ⟨lb,0,none⟩) (g.f i).n lc]:=by
   unfold E3;rw[Z0,kD (c':=fun j=>.slice (some ⟨Bk j,0,none⟩) (g.f j).n (C j)) (fun j hj=>by simp only [if_neg (show ¬j=i by omega)])];simp
  rw[h2];exact h1
 ·by_cases e:j=i
  ·subst e
   simp only[if_pos];refine E2 (L3 hcopyN (xe lb xd (fun h=>?_) R4)) R4;have:=(xa lb h).2;omega
  ·simp only [if_neg e]
   have hc:=hcopy j R4;obtain⟨h1,h2,_,_,xl,xc⟩:=J6 hc;refine L3 hc ((xe (Bk j) R4 (fun h=>?_) R4).trans (hB2w.block _ h2));rcases hown.2 with ⟨h0,_⟩ | ⟨gb,xj,xh,hv,_,hh,_⟩
   ·rw [h0] at h;cases h
   ·rw [hv] at h
    have:gb=Bk j:=by simpa [Value.ownBlock] using h
    rw[this,xc] at hh;have:=Option.some.inj hh;simp at this
 ·refine Below.setCell (p:=⟨q,0,none⟩) ?_ (L1c _) _
  have h2:Below q W1 w2:=hbel.trans (hB2w.mono R4);exact (h2.alloc R4 o).grown hgrow Q8 (fun k hk=>by have:=(xa k hk).1;omega)
theorem a1e {w wf:World} {fb fc:Nat} (hrow:wf.ownsRow (q+1) 163 3 (.slice (some ⟨fb,0,none⟩) g.n fc) g.n (E3 g Bk C g.n)) (hcode:∀j,j < g.n->kW (q+1) wf (g.f j) (Bk j) (C j)) (hB:Below w.heap.size w wf) (hq:w.heap.size<=q) (hn:g.n<=1000) (hc:∀j,j < g.n->(g.f j).n<=1000) :
  bB g w (.returned (.agg #[.slice (some ⟨fb,0,none⟩) g.n fc])) wf:=by
 refine⟨⟨some ⟨fb,0,none⟩,g.n,fc,fb,0,fun j=>{ g.f j with a:=some ⟨Bk j,0,none⟩,c:=C j,b:=Bk j,o:=0 }⟩,rfl,⟨by show g.n<=_;omega,fun _=>?_,fun i hi=>⟨by show (g.f i).n<=_;have:=hc i hi;omega,fun _=>?_⟩⟩,?_,hB,rfl,fun j hj=>⟨rfl,rfl,rfl,rfl,rfl⟩⟩
 ·refine ⟨rfl,(J6 hrow).2.1,fun i hi=>?_⟩
  have xa:i < g.n:=hi;obtain⟨q0,q1,q2⟩:=oL (a:=fun j=>Value.int .i64 (g.f j).p) (b:=fun j=>Value.int .i64 (g.f j).l) (c:=fun j=>Value.slice (some ⟨Bk j,0,none⟩) (g.f j).n (C j)) xa;have e0:=hrow.cellAt (i*3) R4;have e1:=hrow.cellAt (i*3+1) R4;have e2:=hrow.cellAt (i*3+2) R4;simp only[Nat.zero_add];exact⟨e0.trans q0,e1.trans q1,e2.trans q2⟩
 ·have h3:=hcode i hi
  refine⟨rfl,(J6 h3).2.1,fun j hj=>?_⟩;have xb:j < (g.f i).n:=hj;obtain⟨q1,q2⟩:=cL (a:=fun j=>Value.int .i64 ((g.f i).op j)) (b:=fun j=>Value.int .i64 ((g.f i).ar j)) xb;have e0:=h3.cellAt (j*2) R4;have e1:=h3.cellAt (j*2+1) R4;simp only[Nat.zero_add];exact⟨e0.trans q1,e1.trans q2⟩
 ·rintro k (⟨_,rfl⟩ | ⟨i,hi,_,rfl⟩)
  ·have:=(J6 hrow).1
   omega
  ·have:=(J6 (hcode i hi)).1
   show w.heap.size<=Bk i;omega
theorem a1d (g:PgR) (w:World) (hg:I7 w.heap.size w g) (hn1:1<=g.n) (hn8:g.n<=1000) (hcn:∀j,j < g.n->1<=(g.f j).n/\(g.f j).n<=1000) :
  Calls prog 93 #[.agg #[.slice g.a g.n g.c]] w fun e w'=>bB g w e w':=by
 obtain⟨yr,xy,xs,xw,xp⟩:=info_parts a2E;obtain⟨yh,xv,yb,ya,xu⟩:=info_parts a2F;go_enter func93,ntmps93;go_wp2_with fail;generalize hqW1:(((w.alloc (Obj.cells #[.slice g.a g.n g.c] 41)).alloc (Obj.cells #[.slice none 0 0] 41)).alloc (Obj.cells #[.slice none 0 0] 41))=W1 at *
 have p0:W1.cell? ⟨w.heap.size,0,none⟩=some (.slice g.a g.n g.c):=by subst hqW1;go_simp
 have r0:W1.cell? ⟨w.heap.size+1,0,none⟩=some (.slice none 0 0):=by subst hqW1;go_simp
 have rf:W1.frozen? ⟨w.heap.size+1,0,none⟩=false:=by subst hqW1;go_simp
 have q0:W1.cell? ⟨w.heap.size+1+1,0,none⟩=some (.slice none 0 0):=by subst hqW1;go_simp
 have qf:W1.frozen? ⟨w.heap.size+1+1,0,none⟩=false:=by subst hqW1;go_simp
 have xm:Below w.heap.size w W1:=by subst hqW1;repeat (first | exact Below.refl _ _ | refine Below.alloc ?_ Q1 _)
 have yp:W1.heap.size=w.heap.size+1+1+1:=by subst hqW1;simp
 clear hqW1;obtain⟨q,hq⟩:∃q,q=w.heap.size+1+1:=⟨_,rfl⟩
 rw[<- hq] at q0 qf yp ⊢;have zc:w.heap.size+1 < q:=by omega
 have yx:w.heap.size < q:=by omega
 clear hq;go_loopw [4] (fun v wr=>∃i:Nat,i<=g.n/\v=.int .i64 i/\yW g q W1 wr i) (fun v _=>g.n - (intOf v).toNat)
 case atStart=>exact ⟨0,Nat.zero_le _,rfl,fun _=>0,fun _=>0,.slice none 0 0,q0,qf,World.ownsRow_nil _ _ _ _,fun j hj=>by omega,Below.refl _ _,by omega⟩
 case round =>
  obtain⟨i,hi,rfl,Bk,C,cv,yt,yf,xc,xh,xb,yu⟩:=hrel;have xa:Below w.heap.size w wr:=xm.trans (xb.mono R4);have k0:wr.cell? ⟨w.heap.size,0,none⟩=some (.slice g.a g.n g.c):=by rw [xb.cell (by show w.heap.size < q;omega)];exact p0
  have za:w.heap.size < wr.heap.size:=by omega
  have zb:q < wr.heap.size:=by omega
  have xg:=(show Hid _ from xh);clear xh;by_cases hlt:i < g.n
  ·obtain ⟨ha,hb,hc⟩:=hg.2.1 R4
   obtain⟨c0,c1,c2⟩:=hc i hlt;rw[<- xa.cell (p:=⟨g.b,_,none⟩) hb] at c0 c1 c2;clear hc;have yy:g.b < wr.heap.size:=by omega
   rw[ha] at k0;have HA:=(show Hid _ from ha);clear ha;have xk:L1 w.heap.size wr (g.f i):=(hg.2.2 i hlt).below xa;obtain⟨yv,yw⟩:=hcn i hlt;have xi:L1 w.heap.size (wr.alloc (Obj.cells #[.int .i64 (g.f i).p,.int .i64 (g.f i).l,.slice (g.f i).a (g.f i).n (g.f i).c] 163)) (g.f i):=xk.below ((Below.refl _ _).alloc R4 _);have yd:Hid ((g.f i).a=none->(g.f i).n=0/\(g.f i).c=0):=hid fun e=>by have:=(xk.2 R4).1;rw [e] at this;cases this
   go_wp2_with (at_builtin;refine bY _ rfl (.tmp 19) (.tmp 21) 161 rfl (wr.heap.size+1) 165 yh _ 2 16 underlying161 xv yb ya xu rfl R3 rfl (g.f i).a (g.f i).n (g.f i).c (J5 (g.f i)) rfl (I4 _ _ _) yd.out (iI xi) jK Q5 R4 R5 ?_)
   intro lv w1 hown1 hgrow1;have xd:Below (wr.alloc (Obj.cells #[.int .i64 (g.f i).p,.int .i64 (g.f i).l,.slice (g.f i).a (g.f i).n (g.f i).c] 163)).heap.size (wr.alloc (Obj.cells #[.int .i64 (g.f i).p,.int .i64 (g.f i).l,.slice (g.f i).a (g.f i).n (g.f i).c] 163)) w1:=⟨hgrow1.os,hgrow1.tape,hgrow1.output,hgrow1.size,fun k hk=>hgrow1.block k hk R5⟩;have yq:wr.heap.size+1<=w1.heap.size:=by have:=hgrow1.size;simpa using this
   obtain⟨lb,lc,rfl⟩:∃lb lc,lv=.slice (some ⟨lb,0,none⟩) (g.f i).n lc:=by
    rcases hown1.2 with ⟨_,h0⟩ | ⟨gb,xx,yo,hv,_⟩
    ·omega
    ·exact ⟨gb,xx,hv⟩
   have xe:w1.ownsRow (q+1) 163 3 cv i (E3 g Bk C i):=by
    refine (xc.alloc _).kept (row:=none) ⟨xd.os,xd.tape,xd.output,xd.size,fun k hk _=>xd.block k hk⟩ ?_
    cases hv:cv.ownBlock with
    | none=>exact Or.inl rfl
    | some k=>exact Or.inr R5
   have x0:w1.cell? ⟨wr.heap.size,0,none⟩=some (.int .i64 (g.f i).p):=by rw [xd.cell R5];go_simp
   have x1:w1.cell? ⟨wr.heap.size,1,none⟩=some (.int .i64 (g.f i).l):=by rw [xd.cell R5];go_simp
   have xq:w1.cell? ⟨q,0,none⟩=some cv:=by rw [xd.cell Q8];go_simp
   have xf:w1.frozen? ⟨q,0,none⟩=false:=by rw [xd.frozen Q8];go_simp
   have xn:Below wr.heap.size wr w1:=((Below.refl _ _).alloc (L1c _) _).trans (xd.mono R5);have yn:Hid (kW (wr.heap.size+1) w1 (g.f i) lb lc):=hid hown1;have xt:=hid xb;have yc:=hid xn;have xj:=hid xc;have xl:=hid xe;clear hgrow1 hown1 xd c0 c1 c2 k0 yt yf xi xb xa xn xc xe xk;obtain⟨fb,xz⟩:∃fb,fb=wr.heap.size:=⟨_,rfl⟩
   rw[<- xz] at x0 x1 ⊢;have yj:fb < w1.heap.size:=by omega
   have yk:q < w1.heap.size:=by omega
   have yl:q < fb:=by omega
   have yz:=(show Hid _ from xz);clear xz;go_wp2_with (at_builtin;go_must (refine wpList_append_lies _ rfl (.tmp 24) (.tmp 31) 39 rfl (q+1) 163 yr _ 3 40 underlying39 xy xs xw xp rfl R3 cv i (E3 g Bk C i) rfl (xl.out.alloc _) ⟨w1.heap.size,0,none⟩ 1 1 [.int .i64 (g.f i).p,.int .i64 (g.f i).l,.slice (some ⟨lb,0,none⟩) (g.f i).n lc] rfl rfl (World.news_of_block (cs:=#[.int .i64 (g.f i).p,.int .i64 (g.f i).l,.slice (some ⟨lb,0,none⟩) (g.f i).n lc]) (t:=163) (fr:=(0,0)) (Go.Deep.blk_alloc_new _ _)) (lW _ _ _ _ _) R4 Q5 R4 Q8 (w1.heap.size+1) R5 ?_))
   intro cb cc w5 hown5 hgrow5 hat5 hlt5;obtain⟨y0,y1,ye⟩:=qP xj.out xg.out xt.out yu yc.out yn.out xq xf hgrow5 hown5;have yi:q < w5.heap.size:=by have:=hgrow5.size;simp at this;omega
   have yg:=hid ye;clear ye hgrow5 hown5 hat5 hlt5;go_wp2_with fail;go_roundw
   case rel=>exact ⟨i+1,by omega,by go_num,yg.out⟩
   case measure=>simp [intOf];omega
  ·have ym:i=g.n:=by omega
   subst ym;obtain⟨cb,cc,rfl⟩:∃cb cc,cv=.slice (some ⟨cb,0,none⟩) g.n cc:=by
    rcases xc.2 with ⟨_,h0⟩ | ⟨gb,xx,yo,hv,_⟩
    ·omega
    ·exact ⟨gb,xx,hv⟩
   have ys:w.heap.size+1 < wr.heap.size:=by omega
   have m0:wr.cell? ⟨w.heap.size+1,0,none⟩=some (.slice none 0 0):=by rw [xb.cell (by show w.heap.size+1 < q;omega)];exact r0
   have mf:wr.frozen? ⟨w.heap.size+1,0,none⟩=false:=by rw [xb.frozen (by show w.heap.size+1 < q;omega)];exact rf
   have xr:(wr.setCell ⟨w.heap.size+1,0,none⟩ (.slice (some ⟨cb,0,none⟩) g.n cc)).cell? ⟨w.heap.size+1,0,none⟩=some (.slice (some ⟨cb,0,none⟩) g.n cc):=by go_simp
   have xj:=hid xc;have xo:=hid xa;clear xc xa xb;go_wp2_with fail;refine bodyPost_ret (v:=.agg #[.slice (some ⟨cb,0,none⟩) g.n cc]) (by simp [results,results93,go_sem,xr]) rfl (a1e (ownsRow_setCell_below xj.out (a:=⟨w.heap.size+1,0,none⟩) (by show w.heap.size+1 < q+1;omega) _) (fun j hj=>?_) (xo.out.setCell (p:=⟨w.heap.size+1,0,none⟩) (by show w.heap.size<=w.heap.size+1;omega) _) R4 hn8 (fun j hj=>(hcn j hj).2))
   exact ownsRow_setCell_below (xg.out j hj) (a:=⟨w.heap.size+1,0,none⟩) (by show w.heap.size+1 < q+1;omega) _
end
theorem dF (g:PgR) (w:World) (hg:I7 w.heap.size w g) :
  Calls prog 59 #[.agg #[.slice g.a g.n g.c]] w fun e w'=>eO g w e w':=by
 have hn:=hg.1;by_cases h8:1<=g.n/\g.n<=8
 ·obtain ⟨xo,xs⟩:=h8
  obtain⟨ha,hb,hc⟩:=hg.2.1 R4;have HC:=(show Hid _ from hc);clear hc;have HA:=(show Hid _ from ha);have xn:(w.alloc (Obj.cells #[.slice g.a g.n g.c] 41)).cell? ⟨w.heap.size,0,none⟩=some (.slice g.a g.n g.c):=by go_simp
  rw[ha] at xn ⊢;clear ha;go_enter func59,ntmps59;go_wp2
  have xd:Below w.heap.size w (w.alloc (Obj.cells #[.slice (some ⟨g.b,g.o,none⟩) g.n g.c] 41)):=(Below.refl _ _).alloc (L1c _) _;have yl:(w.alloc (Obj.cells #[.slice (some ⟨g.b,g.o,none⟩) g.n g.c] 41)).heap.size=w.heap.size+1:=by simp
  generalize w.alloc (Obj.cells #[.slice (some ⟨g.b,g.o,none⟩) g.n g.c] 41)=W1 at *
  go_loopw [4] (fun i wr=>∃k:Nat,k<=g.n/\i=.int .i64 k/\(∀j:Nat,j < k->Z5 j (g.f j).p (g.f j).l (g.f j).n=true)/\Below W1.heap.size W1 wr) (fun i _=>g.n - (intOf i).toNat)
  case atStart=>exact ⟨0,Nat.zero_le _,rfl,fun j hj=>by omega,Below.refl _ _⟩
  case round =>
   obtain⟨k,hk,rfl,xc,xb⟩:=hrel;have xe:=(show Hid _ from xc);clear xc;have xl:=xb.size;have xk:w.heap.size < wr.heap.size:=by omega
   have xa:Below w.heap.size w wr:=xd.trans (xb.mono R4);have k0:wr.cell? ⟨w.heap.size,0,none⟩=some (.slice (some ⟨g.b,g.o,none⟩) g.n g.c):=by rw [xb.cell (by show w.heap.size < W1.heap.size;omega)];exact xn
   by_cases hlt:k < g.n
   ·obtain ⟨c0,c1,c2⟩:=HC.out k hlt
    rw[<- xa.cell (p:=⟨g.b,_,none⟩) hb] at c0 c1 c2;have xx:g.b < wr.heap.size:=by omega
    have xv:=(hg.2.2 k hlt).1
    cases hs:Z5 k (g.f k).p (g.f k).l (g.f k).n
    ·go_wp2_with fail
     refine (oW _ _ _ _ _ _ _ xv).mono ?_;rintro e w2 ⟨rfl,xh⟩;rw[hs];go_wp2_with fail;go_ret2;exact N9 1 k rfl (Or.inl ⟨Or.inr (Or.inr ⟨rfl,xo,xs,k,rfl,hlt,hs,xe.out⟩),rfl⟩) (C6 xh xa Q1)
    ·go_wp2_with fail
     refine (oW _ _ _ _ _ _ _ xv).mono ?_;rintro e w2 ⟨rfl,xh⟩;rw[hs];go_wp2_with fail;go_roundw
     case rel=>exact ⟨k+1,by omega,by go_num,fun t ht=>by
      by_cases e:t=k
      ·subst e;exact hs
      ·exact xe.out t R4,C6 xh xb Q1⟩
     case measure=>simp [intOf];omega
   ·have hS:T9 g:=⟨xo,xs,fun i hi=>xe.out i R4⟩
    have xr:X2 g 0 true:=Or.inl ⟨rfl,rfl,xo,xs,hS.2.2⟩;go_wp2_with fail;clear k0;go_loopw [6] (fun i wr=>∃k:Nat,k<=g.n/\i=.int .i64 k/\(∀i,i < k->∀j,j < (g.f i).n->N0 g i j=true)/\Below W1.heap.size W1 wr) (fun i _=>g.n - (intOf i).toNat)
    case atStart=>exact ⟨0,Nat.zero_le _,rfl,fun j hj=>by omega,xb⟩
    case round =>
     clear xe xb xl xk xa hlt;obtain⟨k,hk,rfl,xc,xb⟩:=hrel;have xe:=(show Hid _ from xc);clear xc;have xl:=xb.size;have xk:w.heap.size < wr.heap.size:=by omega
     have xa:Below w.heap.size w wr:=xd.trans (xb.mono R4);have k0:wr.cell? ⟨w.heap.size,0,none⟩=some (.slice (some ⟨g.b,g.o,none⟩) g.n g.c):=by rw [xb.cell (by show w.heap.size < W1.heap.size;omega)];exact xn
     by_cases hlt:k < g.n
     ·obtain ⟨ya,yf,yj,yd,_,_⟩:=hS.bd hlt
      obtain⟨xz,yk,xy⟩:=(hg.2.2 k hlt).2 ya;have yb:=(show Hid _ from xy);clear xy;have yg:=(show Hid _ from xz);clear xz;go_wp2_with fail;clear k0;go_loopw [7] (fun i wx=>∃j:Nat,j<=(g.f k).n/\i=.int .i64 j/\(∀t,t < j->N0 g k t=true)/\Below W1.heap.size W1 wx) (fun i _=>(g.f k).n - (intOf i).toNat)
      case atStart=>exact ⟨0,Nat.zero_le _,rfl,fun j hj=>by omega,xb⟩
      case round =>
       clear xb xl xk xa;obtain⟨j,hj,rfl,xg,xb⟩:=hrel;have xi:=(show Hid _ from xg);clear xg;have xl:=xb.size;have xk:w.heap.size < wr.heap.size:=by omega
       have xa:Below w.heap.size w wr:=xd.trans (xb.mono R4);have k0:wr.cell? ⟨w.heap.size,0,none⟩=some (.slice (some ⟨g.b,g.o,none⟩) g.n g.c):=by rw [xb.cell (by show w.heap.size < W1.heap.size;omega)];exact xn
       obtain⟨c0,c1,c2⟩:=HC.out k hlt;rw[<- xa.cell (p:=⟨g.b,_,none⟩) hb] at c0 c1 c2;rw[yg.out] at c2;have xx:g.b < wr.heap.size:=by omega
       by_cases hjl:j < (g.f k).n
       ·obtain ⟨o0,o1⟩:=yb.out j hjl
        rw[<- xa.cell (p:=⟨(g.f k).b,_,none⟩) yk] at o0 o1;have yh:(g.f k).b < wr.heap.size:=by omega
        have m0:=cell_regrown k0;have m1:=cell_regrown c0;have m2:=cell_regrown c1;have m3:=cell_regrown c2;have m4:=cell_regrown o0;have m5:=cell_regrown o1;have xj:Hid (∀d os,Calls prog 97 #[.agg #[.slice (some ⟨g.b,g.o,none⟩) g.n g.c],.agg #[.int .i64 (g.f k).p,.int .i64 (g.f k).l,.slice (some ⟨(g.f k).b,(g.f k).o,none⟩) (g.f k).n (g.f k).c],.agg #[.int .i64 ((g.f k).op j),.int .i64 ((g.f k).ar j)]] (grow (redrawn wr d) os) fun e w''=>e=.returned (.bool (N0 g k j))/\∃p:Regrown,w''=grow (redrawn wr p.d) p.os):=fun d os=>Calls.regrown_of (a0D _ _ _ _ _ _ _ _ _ _ _)
        cases hlj:N0 g k j
        ·rw [hlj] at xj
         go_wp2_with fail;clear k0 c0 c1 c2 o0 o1;refine wp_region_quiet_below Q7 Q7 ?_
         repeat (first
          | go_big_quiet_step ((go_at_call 97;exact xj.out _ _))
          | quiet_step ((go_at_call 97;exact xj.out _ _)))
         refine wpQuiet_nil ?_;intro _ hw';obtain⟨⟨dq,xq⟩,hw''⟩:=hw';subst hw'';clear m0 m1 m2 m3 m4 m5;go_wp2_with fail;go_ret2;exact N9 2 _ rfl (Or.inr ⟨xr,Or.inl ⟨Or.inr ⟨rfl,k,j,rfl,hlt,xe.out,hjl,hlj,xi.out⟩,rfl⟩⟩) (xa.trans ((below_regrown wr dq xq).mono xa.size))
        ·rw [hlj] at xj
         go_wp2_with fail;clear k0 c0 c1 c2 o0 o1;refine wp_region_quiet_below Q7 Q7 ?_
         repeat (first
          | go_big_quiet_step ((go_at_call 97;exact xj.out _ _))
          | quiet_step ((go_at_call 97;exact xj.out _ _)))
         refine wpQuiet_nil ?_;intro _ hw';obtain⟨⟨dq,xq⟩,hw''⟩:=hw';subst hw'';clear m0 m1 m2 m3 m4 m5;go_wp2_with fail;go_roundw
         case rel=>exact ⟨j+1,by omega,by go_num,fun t ht=>by
          by_cases e:t=j
          ·subst e;exact hlj
          ·exact xi.out t R4,xb.trans ((below_regrown wr dq xq).mono xb.size)⟩
         case measure=>simp [intOf];omega
       ·go_wp2_with fail
        go_roundw
        case rel=>exact ⟨k+1,by omega,by go_num,fun t ht j' hj'=>by
         by_cases e:t=k
         ·subst e;exact xi.out j' R4
         ·exact xe.out t R4 j' hj',xb⟩
        case measure=>simp [intOf];omega
     ·have hL:dV g:=fun i hi j hj=>xe.out i R4 j hj
      have xt:Z8 g 0 true:=Or.inl ⟨rfl,rfl,hL⟩;go_wp2_with fail;clear k0;go_loopw [9] (fun i wr=>∃k:Nat,k<=g.n/\i=.int .i64 k/\(∀i,i < k->(B6 g (g.f i)).Fits)/\Below W1.heap.size W1 wr) (fun i _=>g.n - (intOf i).toNat)
      case atStart=>exact ⟨0,Nat.zero_le _,rfl,fun j hj=>by omega,xb⟩
      case round =>
       clear xe xb xl xk xa hlt;obtain⟨k,hk,rfl,xc,xb⟩:=hrel;have xe:=(show Hid _ from xc);clear xc;have xl:=xb.size;have xk:w.heap.size < wr.heap.size:=by omega
       have xa:Below w.heap.size w wr:=xd.trans (xb.mono R4);have k0:wr.cell? ⟨w.heap.size,0,none⟩=some (.slice (some ⟨g.b,g.o,none⟩) g.n g.c):=by rw [xb.cell (by show w.heap.size < W1.heap.size;omega)];exact xn
       by_cases hlt:k < g.n
       ·obtain ⟨c0,c1,c2⟩:=HC.out k hlt
        rw[<- xa.cell (p:=⟨g.b,_,none⟩) hb] at c0 c1 c2;have xx:g.b < wr.heap.size:=by omega
        have HH:Hid (∀W,Below wr.heap.size wr W->Calls prog 98 #[.agg #[.slice (some ⟨g.b,g.o,none⟩) g.n g.c],.agg #[.int .i64 (g.f k).p,.int .i64 (g.f k).l,.slice (g.f k).a (g.f k).n (g.f k).c]] W fun e w'=>O5 g (g.f k) W e w'):=by
         intro W hW;have xu:Below w.heap.size w W:=xa.trans (hW.mono xa.size);rw[<- HA.out];exact sW w.heap.size g (g.f k) W (Nat.le_trans xa.size hW.size) (hg.below xu) ((hg.2.2 k hlt).below xu) (kT hS hL hlt)
        go_wp2_with fail;go_region_with ((go_at_call 98;refine (HH.out _ ?_).mono ?_;exact (Below.refl _ _).drew;rintro e w2 ⟨v,ok,rfl,xf,xh⟩))
        all_goals
         have yc:Below w.heap.size w w2:=C6 xh xa.drew (by show w.heap.size<=wr.heap.size;omega);have yi:Below W1.heap.size W1 w2:=C6 xh xb.drew (by show W1.heap.size<=wr.heap.size;omega);clear xh k0 c0 c1 c2 HH
         cases ok
         ·have xw:¬(B6 g (g.f k)).Fits:=fun h=>by have:=xf.2 h;cases this
          have ye:=(show Hid _ from xw);clear xw xf;go_wp2_with fail;go_ret2;exact N9 3 k rfl (Or.inr ⟨xr,Or.inr ⟨xt,Or.inl ⟨Or.inr ⟨rfl,k,rfl,hlt,ye.out,xe.out⟩,rfl⟩⟩⟩) yc
         ·have xm:=xf.1 rfl
          have xp:=(show Hid _ from xm);clear xm xf;go_wp2_with fail;go_roundw
          case rel=>exact ⟨k+1,by omega,by go_num,fun t ht=>by
           by_cases e:t=k
           ·subst e;exact xp.out
           ·exact xe.out t R4,yi⟩
          case measure=>simp [intOf];omega
       ·go_wp2_with fail
        go_ret2;exact N9 0 0 rfl (Or.inr ⟨xr,Or.inr ⟨xt,Or.inr ⟨Or.inl ⟨rfl,rfl,fun i hi=>xe.out i R4⟩,rfl,rfl⟩⟩⟩) xa
 ·have hB:Below w.heap.size w (w.alloc (Obj.cells #[.slice g.a g.n g.c] 41)):=(Below.refl _ _).alloc (L1c _) _
  by_cases h0:g.n < 1
  ·go_enter func59,ntmps59
   go_wp2
   go_ret2;exact N9 1 0 rfl (Or.inl ⟨Or.inr (Or.inl ⟨rfl,rfl,h8⟩),rfl⟩) hB
  ·have h9:8 < g.n:=by omega
   go_enter func59,ntmps59;go_wp2
   go_ret2;exact N9 1 0 rfl (Or.inl ⟨Or.inr (Or.inl ⟨rfl,rfl,h8⟩),rfl⟩) hB
end Go.Proofs.YtbkmgoffiigdbaaGreatDoor
