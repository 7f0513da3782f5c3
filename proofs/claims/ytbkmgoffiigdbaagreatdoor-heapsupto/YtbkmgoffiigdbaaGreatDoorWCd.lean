import Derived.Test.YtbkmgoffiigdbaaGreatDoorWDi
import Derived.Test.YtbkmgoffiigdbaaGreatDoorWEb
import Derived.Test.YtbkmgoffiigdbaaGreatDoorWFb
namespace Go.Proofs.YtbkmgoffiigdbaaGreatDoor
open Go.RowKit Go.Sort Go.Proofs.Tryz
set_option maxHeartbeats 4000000
set_option maxRecDepth 100000
theorem nL (a b:Option Addr) (n c m d:Nat) (p l op x:Int) (w:World) (ht:Tab w) (h0:0<=l) (h8:l<=8) (hn:n<=1152921504606846976) (hm:m<=1152921504606846976) :
  Calls prog 174 #[.agg #[.slice a n c],.agg #[.int .i64 p,.int .i64 l,.slice b m d],.agg #[.int .i64 op,.int .i64 x]] w fun e w'=>e=.returned (.bool (E7 n l m op x))/\L0d w w':=by
 cases hin:B0 op 0 27 with
 | false =>
  have e:E7 n l m op x=false:=by
   have:¬(0<=op/\op<=27):=fun h=>by rw [I4 h.1 h.2] at hin;cases hin
   cases hl:E7 n l m op x with
   | false=>rfl
   | true=>exact absurd (iI hl) this
  rw[e];exact pS a b n c m d p l x op w hin
 | true =>
  obtain⟨o0,xa⟩:=E2.1 hin;obtain⟨k,rfl⟩:=L5c o0;have hk:k < 28:=by omega
  have hc:=(ht.2 k hk).2.2.2.1;by_cases h1:k=0
  ·rw [show N2 k=255 by simp [N2,h1]] at hc
   rw[show E7 n l m k x=true by unfold E7;rw [if_pos R4]];exact pL a b n c m d p l x k w ht.1 hk hc
  by_cases h2:k=2\/k=3
  ·rw [show N2 k=259 by unfold N2;rw [if_neg h1,if_pos h2]] at hc
   rw[show E7 n l m k x=B0 x 0 (l - 1) by unfold E7;rw [if_neg R4,if_pos R4]];exact pN a b n c m d p l x k w ht.1 hk hc h0 h8
  by_cases h3:k=12\/k=13
  ·rw [show N2 k=270 by unfold N2;rw [if_neg h1,if_neg h2,if_pos h3]] at hc
   rw[show E7 n l m k x=B0 x 0 (m - 1) by unfold E7;rw [if_neg R4,if_neg R4,if_pos R4]];exact pO a b n c m d p l x k w ht.1 hk hc hm
  by_cases h4:k=14
  ·rw [show N2 k=273 by unfold N2;rw [if_neg h1,if_neg h2,if_neg h3,if_pos h4]] at hc
   rw[show E7 n l m k x=B0 x 0 (n - 1) by unfold E7;rw [if_neg R4,if_neg R4,if_neg R4,if_pos R4]];exact pP a b n c m d p l x k w ht.1 hk hc hn
  by_cases h5:k=16
  ·rw [show N2 k=276 by unfold N2;rw [if_neg h1,if_neg h2,if_neg h3,if_neg h4,if_pos h5]] at hc
   rw[show E7 n l m k x=B0 x 0 8 by unfold E7;rw [if_neg R4,if_neg R4,if_neg R4,if_neg R4,if_pos R4]];exact pQ a b n c m d p l x k w ht.1 hk hc
  by_cases h6:k=19\/k=20
  ·rw [show N2 k=280 by unfold N2;rw [if_neg h1,if_neg h2,if_neg h3,if_neg h4,if_neg h5,if_pos h6]] at hc
   rw[show E7 n l m k x=B0 x 0 7 by unfold E7;rw [if_neg R4,if_neg R4,if_neg R4,if_neg R4,if_neg R4,if_pos R4]];exact pR a b n c m d p l x k w ht.1 hk hc
  ·rw [show N2 k=257 by unfold N2;rw [if_neg h1,if_neg h2,if_neg h3,if_neg h4,if_neg h5,if_neg h6]] at hc
   rw[show E7 n l m k x=(x == 0) by unfold E7;rw [if_neg R4,if_neg R4,if_neg R4,if_neg R4,if_neg R4,if_neg R4,hin,Bool.true_and]];exact pM a b n c m d p l x k w ht.1 hk hc
theorem eF {k p l:Int} {n:Nat} (h:Y9 k p l n=true):1<=n/\n<=60/\0<=l/\l<=8/\0<=p/\p<=l:=by
 simp only[Y9,Bool.and_eq_true,E2] at h;omega
def T7 (g:PgR):Prop:=1<=g.n/\g.n<=8/\∀i,i < g.n->Y9 i (g.f i).p (g.f i).l (g.f i).n=true
def N5 (g:PgR) (i j:Nat):Bool:=E7 g.n (g.f i).l (g.f i).n ((g.f i).op j) ((g.f i).ar j)
def Z3 (g:PgR) (at_:Int) (ok:Bool):Prop :=
 (ok=true/\at_=0/\∀i,i < g.n->∀j,j < (g.f i).n->N5 g i j=true) \/
 (ok=false/\∃k j:Nat,at_=1000*(k:Int)+(j:Int)/\k < g.n/\(∀i,i < k->∀j,j < (g.f i).n->N5 g i j=true)/\rM (g.f k).n (N5 g k) j)
def N3 (g:PgR) (at_:Int) (ok:Bool):Prop :=
 (ok=true/\at_=0/\∀i,i < g.n->(B6 g (g.f i)).Fits) \/
 (ok=false/\∃k:Nat,at_=k/\k < g.n/\¬(B6 g (g.f k)).Fits/\∀i,i < k->(B6 g (g.f i)).Fits)
theorem T7.bd {g:PgR} (h:T7 g) {i:Nat} (hi:i < g.n):1<=(g.f i).n/\(g.f i).n<=60/\0<=(g.f i).l/\(g.f i).l<=8/\0<=(g.f i).p/\(g.f i).p<=(g.f i).l:=eF (h.2.2 i hi)
def rH (g:PgR) (w:World) (e:Ending) (w':World):Prop:=∃at_ ok,e=.returned (.tuple #[.int .i64 at_,.bool ok])/\Z3 g at_ ok/\L0d w w'
theorem sA {g:PgR} {w:World} {e:Ending} {w':World} (at_:Int) (ok:Bool) (he:e=.returned (.tuple #[.int .i64 at_,.bool ok])) (hs:Z3 g at_ ok) (hb:L0d w w'):rH g w e w':=⟨at_,ok,he,hs,hb⟩
theorem nC (g:PgR) (w:World) (hg:I5 w.heap.size w g) (hS:T7 g) (ht:Tab w) :
  Calls prog 132 #[.agg #[.slice g.a g.n g.c]] w fun e w'=>rH g w e w':=by
 have hn:=hg.1;have yh:=hS.1;have yf:=hS.2.1;obtain⟨ha,hb,hc⟩:=hg.2.1 R4;have HC:=(show Hid _ from hc);clear hc;have xx:=ht.1;have xs:(w.alloc (Obj.cells #[.slice g.a g.n g.c] 41)).cell? ⟨w.heap.size,0,none⟩=some (.slice g.a g.n g.c):=by go_simp
 rw[ha] at xs ⊢;clear ha;go_enter func132,ntmps132;go_wp2
 have xd:L0d w (w.alloc (Obj.cells #[.slice (some ⟨g.b,g.o,none⟩) g.n g.c] 41)):=(L3b _ _).alloc (L1c _) _;have yg:(w.alloc (Obj.cells #[.slice (some ⟨g.b,g.o,none⟩) g.n g.c] 41)).heap.size=w.heap.size+1:=by simp
 generalize w.alloc (Obj.cells #[.slice (some ⟨g.b,g.o,none⟩) g.n g.c] 41)=W1 at *
 go_loopw [11] (fun i wr=>∃k:Nat,k<=g.n/\i=.int .i64 k/\(∀i,i < k->∀j,j < (g.f i).n->N5 g i j=true)/\L0d W1 wr) (fun i _=>g.n - (intOf i).toNat)
 case atStart=>exact ⟨0,L4c _,rfl,fun j hj=>by omega,L3b _ _⟩
 case round =>
  obtain⟨k,hk,rfl,xi,xb⟩:=hrel;have xo:=(show Hid _ from xi);clear xi;have xz:=xb.size;by_cases hlt:k < g.n
  ·obtain ⟨c0,c1,c2⟩:=HC.out k hlt
   have xa:L0d w wr:=xd.trans (xb.mono R4);rw[<- xa.cell (p:=⟨g.b,_,none⟩) hb] at c0 c1 c2;have xy:g.b < wr.heap.size:=by omega
   obtain⟨ya,xw,xl,xm,_,_⟩:=hS.bd hlt;obtain⟨xq,yb,xr⟩:=(hg.2.2 k hlt).2 ya;rw[xq] at c2;have yd:=(show Hid _ from xr);clear xr xq;go_wp2
   have xf:L0d wr (wr.alloc (Obj.cells #[.int .i64 (g.f k).p,.int .i64 (g.f k).l,.slice (some ⟨(g.f k).b,(g.f k).o,none⟩) (g.f k).n (g.f k).c] 163)):=(L3b _ _).alloc (L1c _) _;have e0:(wr.alloc (Obj.cells #[.int .i64 (g.f k).p,.int .i64 (g.f k).l,.slice (some ⟨(g.f k).b,(g.f k).o,none⟩) (g.f k).n (g.f k).c] 163)).cell? ⟨wr.heap.size,0,none⟩=some (.int .i64 (g.f k).p):=by go_simp
   have e1:(wr.alloc (Obj.cells #[.int .i64 (g.f k).p,.int .i64 (g.f k).l,.slice (some ⟨(g.f k).b,(g.f k).o,none⟩) (g.f k).n (g.f k).c] 163)).cell? ⟨wr.heap.size,1,none⟩=some (.int .i64 (g.f k).l):=by go_simp
   have e2:(wr.alloc (Obj.cells #[.int .i64 (g.f k).p,.int .i64 (g.f k).l,.slice (some ⟨(g.f k).b,(g.f k).o,none⟩) (g.f k).n (g.f k).c] 163)).cell? ⟨wr.heap.size,2,none⟩=some (.slice (some ⟨(g.f k).b,(g.f k).o,none⟩) (g.f k).n (g.f k).c):=by go_simp
   have xt:(wr.alloc (Obj.cells #[.int .i64 (g.f k).p,.int .i64 (g.f k).l,.slice (some ⟨(g.f k).b,(g.f k).o,none⟩) (g.f k).n (g.f k).c] 163)).heap.size=wr.heap.size+1:=by simp
   generalize wr.alloc (Obj.cells #[.int .i64 (g.f k).p,.int .i64 (g.f k).l,.slice (some ⟨(g.f k).b,(g.f k).o,none⟩) (g.f k).n (g.f k).c] 163)=WF at *
   clear c0 c1 c2;obtain⟨fb,xk⟩:∃fb,fb=wr.heap.size:=⟨_,rfl⟩
   unfold L0d at xf;rw[<- xk] at e0 e1 e2 xt xf ⊢;have xe:L0d W1 WF:=xb.trans (xf.mono R4);have yc:W1.heap.size<=fb:=by omega
   clear xk xb xa xy xz;go_loopw [19] (fun i wx=>∃j:Nat,j<=(g.f k).n/\i=.int .i64 j/\(∀t,t < j->N5 g k t=true)/\L0d WF wx) (fun i _=>(g.f k).n - (intOf i).toNat)
   case atStart=>exact ⟨0,L4c _,rfl,fun j hj=>by omega,L3b _ _⟩
   case round =>
    obtain⟨j,hj,rfl,xg,xc⟩:=hrel;have xh:=(show Hid _ from xg);clear xg;have ye:=xc.size;by_cases hjl:j < (g.f k).n
    ·obtain ⟨o0,o1⟩:=yd.out j hjl
     have xa:L0d w wr:=(xd.trans (xe.mono R4)).trans (xc.mono R4);rw[<- xa.cell (p:=⟨(g.f k).b,_,none⟩) yb] at o0 o1;have xv:(g.f k).b < wr.heap.size:=by omega
     have xu:fb < wr.heap.size:=by omega
     have yi:w.heap.size < wr.heap.size:=by omega
     have k0:wr.cell? ⟨w.heap.size,0,none⟩=some (.slice (some ⟨g.b,g.o,none⟩) g.n g.c):=by rw [(xe.trans (xc.mono R4)).cell (by show w.heap.size < W1.heap.size;omega)];exact xs
     have x0:wr.cell? ⟨fb,0,none⟩=some (.int .i64 (g.f k).p):=by rw [xc.cell (by show fb < WF.heap.size;omega)];exact e0
     have x1:wr.cell? ⟨fb,1,none⟩=some (.int .i64 (g.f k).l):=by rw [xc.cell (by show fb < WF.heap.size;omega)];exact e1
     have x2:wr.cell? ⟨fb,2,none⟩=some (.slice (some ⟨(g.f k).b,(g.f k).o,none⟩) (g.f k).n (g.f k).c):=by rw [xc.cell (by show fb < WF.heap.size;omega)];exact e2
     have xn:Tab wr:=ht.below xx xa;have xj:E7 g.n (g.f k).l (g.f k).n ((g.f k).op j) ((g.f k).ar j)=N5 g k j:=rfl;have HI:Hid (∀W,L0d wr W->Calls prog 174 #[.agg #[.slice (some ⟨g.b,g.o,none⟩) g.n g.c],.agg #[.int .i64 (g.f k).p,.int .i64 (g.f k).l,.slice (some ⟨(g.f k).b,(g.f k).o,none⟩) (g.f k).n (g.f k).c],.agg #[.int .i64 ((g.f k).op j),.int .i64 ((g.f k).ar j)]] W fun e w'=>e=.returned (.bool (N5 g k j))/\L0d W w'):=by
      intro W hW;rw[<- xj];exact nL _ _ _ _ _ _ _ _ _ _ W (xn.below xn.1 hW) xl xm hn R4
     clear xj xn
     cases hlj:N5 g k j
     ·rw [hlj] at HI
      go_wp2_with fail;refine (HI.out _ P4).mono ?_;rintro e w2 ⟨rfl,xp⟩;go_wp2_with fail;go_ret2;exact sA _ false rfl (L4b ⟨rfl,k,j,rfl,hlt,xo.out,hjl,hlj,xh.out⟩) (C5 xp ((xa.alloc R4 _)) Q1)
     ·rw [hlj] at HI
      go_wp2_with fail;refine (HI.out _ P4).mono ?_;rintro e w2 ⟨rfl,xp⟩;go_wp2_with fail;go_roundw
      case rel=>exact ⟨j+1,by omega,by go_num,fun t ht=>by
       by_cases e:t=j
       ·subst e;exact hlj
       ·exact xh.out t R4,C5 xp ((xc.alloc R4 _)) Q1⟩
      case measure=>simp [intOf];omega
    ·go_wp2_with fail
     go_roundw
     case rel=>exact ⟨k+1,by omega,by go_num,fun t ht j' hj'=>by
      by_cases e:t=k
      ·subst e;exact xh.out j' R4
      ·exact xo.out t R4 j' hj',xe.trans (xc.mono R4)⟩
     case measure=>simp [intOf];omega
  ·go_wp2
   go_ret2;exact sA 0 true rfl (L4a ⟨rfl,rfl,fun i hi j hj=>xo.out i R4 j hj⟩) (xd.trans (xb.mono R4))
section
variable {a b:Int} {e:Ending} {g:PgR} {w w':World} {x y:Bool}
def dH (g:PgR):Prop:=∀i,i < g.n->∀j,j < (g.f i).n->N5 g i j=true
theorem kO (hS:T7 g) (hL:dH g) {i:Nat} (hi:i < g.n):uJ g (g.f i) :=
 ⟨(hS.bd hi).1,(hS.bd hi).2.1,fun j hj=>by have:=hS.bd hj;omega,hL i hi⟩
def a1W (g:PgR) (w:World) (e:Ending) (w':World):Prop:=∃at_ ok,e=.returned (.tuple #[.int .i64 at_,.bool ok])/\N3 g at_ ok/\L0d w w'
theorem a2G (at_:Int) (ok:Bool) (he:e=.returned (.tuple #[.int .i64 at_,.bool ok])) (hs:N3 g at_ ok) (hb:L0d w w'):a1W g w e w':=⟨at_,ok,he,hs,hb⟩
theorem jD (g:PgR) (w:World) (hg:I5 w.heap.size w g) (hS:T7 g) (hL:dH g) (ht:Tab w) :
  Calls prog 133 #[.agg #[.slice g.a g.n g.c]] w fun e w'=>a1W g w e w':=by
 have hn:=hg.1;have xq:=hS.1;have xo:=hS.2.1;obtain⟨ha,hb,hc⟩:=hg.2.1 R4;have HC:=(show Hid _ from hc);clear hc;have xj:=ht.1;have HA:=(show Hid _ from ha);have xm:(w.alloc (Obj.cells #[.slice g.a g.n g.c] 41)).cell? ⟨w.heap.size,0,none⟩=some (.slice g.a g.n g.c):=by go_simp
 rw[ha] at xm ⊢;clear ha;go_enter func133,ntmps133;go_wp2
 have xd:L0d w (w.alloc (Obj.cells #[.slice (some ⟨g.b,g.o,none⟩) g.n g.c] 41)):=(L3b _ _).alloc (L1c _) _;have xp:(w.alloc (Obj.cells #[.slice (some ⟨g.b,g.o,none⟩) g.n g.c] 41)).heap.size=w.heap.size+1:=by simp
 generalize w.alloc (Obj.cells #[.slice (some ⟨g.b,g.o,none⟩) g.n g.c] 41)=W1 at *
 go_loopw [11] (fun i wr=>∃k:Nat,k<=g.n/\i=.int .i64 k/\(∀i,i < k->(B6 g (g.f i)).Fits)/\L0d W1 wr) (fun i _=>g.n - (intOf i).toNat)
 case atStart=>exact ⟨0,L4c _,rfl,fun j hj=>by omega,L3b _ _⟩
 case round =>
  obtain⟨k,hk,rfl,xe,xa⟩:=hrel;have xh:=(show Hid _ from xe);clear xe;have xs:=xa.size;by_cases hlt:k < g.n
  ·obtain ⟨c0,c1,c2⟩:=HC.out k hlt
   have xb:L0d w wr:=xd.trans (xa.mono R4);rw[<- xb.cell (p:=⟨g.b,_,none⟩) hb] at c0 c1 c2;have xr:g.b < wr.heap.size:=by omega
   have xt:w.heap.size < wr.heap.size:=by omega
   have k0:wr.cell? ⟨w.heap.size,0,none⟩=some (.slice (some ⟨g.b,g.o,none⟩) g.n g.c):=by rw [xa.cell (by show w.heap.size < W1.heap.size;omega)];exact xm
   have HH:Hid (∀W,L0d wr W->Calls prog 175 #[.agg #[.slice (some ⟨g.b,g.o,none⟩) g.n g.c],.agg #[.int .i64 (g.f k).p,.int .i64 (g.f k).l,.slice (g.f k).a (g.f k).n (g.f k).c]] W fun e w'=>O8 g (g.f k) W e w'):=by
    intro W hW;have xg:L0d w W:=xb.trans (hW.mono xb.size);rw[<- HA.out];exact nK w.heap.size g (g.f k) W xj (L5a xb.size hW.size) (hg.below xg) ((hg.2.2 k hlt).below xg) (kO hS hL hlt) (ht.below xj xg)
   go_wp2_with fail;refine (HH.out _ P4).mono ?_;rintro e w2 ⟨v,ok,rfl,xc,xl⟩
   cases ok
   ·have xk:¬(B6 g (g.f k)).Fits:=fun h=>by have:=xc.2 h;cases this
    have xn:=(show Hid _ from xk);clear xk xc;go_wp2_with fail;go_ret2;exact a2G k false rfl (L4b ⟨rfl,k,rfl,hlt,xn.out,xh.out⟩) (C5 xl ((xb.alloc R4 _)) Q1)
   ·have xf:=xc.1 rfl
    have xi:=(show Hid _ from xf);clear xf xc;go_wp2_with fail;go_roundw
    case rel=>exact ⟨k+1,by omega,by go_num,fun t ht=>by
     by_cases e:t=k
     ·subst e;exact xi.out
     ·exact xh.out t R4,C5 xl ((xa.alloc R4 _)) Q1⟩
    case measure=>simp [intOf];omega
  ·go_wp2
   go_ret2;exact a2G 0 true rfl (L4a ⟨rfl,rfl,fun i hi=>xh.out i R4⟩) (xd.trans (xa.mono R4))
def I9 (g:PgR) (e a:Int):Prop :=
 (W8 g a false/\e=1)\/(W8 g 0 true/\((Z3 g a false/\e=2)\/(Z3 g 0 true/\((N3 g a false/\e=3)\/(N3 g 0 true/\e=0/\a=0)))))
theorem W8.all (h:W8 g a true):T7 g/\a=0:=by
 rcases h with ⟨_,h0,h1,h2,h3⟩ | ⟨h,_⟩ | ⟨h,_⟩
 ·exact ⟨⟨h1,h2,h3⟩,h0⟩
 ·cases h
 ·cases h
theorem Z3.all (h:Z3 g a true):dH g/\a=0:=by
 rcases h with ⟨_,h0,h1⟩ | ⟨h,_⟩
 ·exact ⟨h1,h0⟩
 ·cases h
theorem N3.zero (h:N3 g a true):a=0:=by
 rcases h with ⟨_,h0,_⟩ | ⟨h,_⟩
 ·exact h0
 ·cases h
theorem W8.unique (h:W8 g a x) (h':W8 g b y):a=b/\x=y:=by
 rcases h with ⟨rfl,rfl,h1,h2,h3⟩ | ⟨rfl,rfl,h1⟩ | ⟨rfl,h1,h2,k,rfl,hk⟩ <;> rcases h' with ⟨rfl,rfl,g1,g2,g3⟩ | ⟨rfl,rfl,g1⟩ | ⟨rfl,g1,g2,k',rfl,xa⟩
 ·exact ⟨rfl,rfl⟩
 ·exact absurd ⟨h1,h2⟩ g1
 ·have:=h3 k' xa.1;have h4:=xa.2.1;simp only at h4;rw [this] at h4;cases h4
 ·exact absurd ⟨g1,g2⟩ h1
 ·exact ⟨rfl,rfl⟩
 ·exact absurd ⟨g1,g2⟩ h1
 ·have:=g3 k hk.1;have h4:=hk.2.1;simp only at h4;rw [this] at h4;cases h4
 ·exact absurd ⟨h1,h2⟩ g1
 ·rw [hk.unique xa];exact ⟨rfl,rfl⟩
theorem Z3.unique (h:Z3 g a x) (h':Z3 g b y):a=b/\x=y:=by
 rcases h with ⟨rfl,rfl,h1⟩ | ⟨rfl,k,j,rfl,hk,h1,hj⟩ <;> rcases h' with ⟨rfl,rfl,g1⟩ | ⟨rfl,k',j',rfl,xb,g1,xa⟩
 ·exact ⟨rfl,rfl⟩
 ·have:=h1 k' xb j' xa.1;rw [xa.2.1] at this;cases this
 ·have:=g1 k hk j hj.1;rw [hj.2.1] at this;cases this
 ·rcases Nat.lt_trichotomy k k' with hl | rfl | hl
  ·have:=g1 k hl j hj.1;rw [hj.2.1] at this;cases this
  ·rw [hj.unique xa];exact ⟨rfl,rfl⟩
  ·have:=h1 k' hl j' xa.1;rw [xa.2.1] at this;cases this
theorem N3.unique (h:N3 g a x) (h':N3 g b y):a=b/\x=y:=by
 rcases h with ⟨rfl,rfl,h1⟩ | ⟨rfl,k,rfl,hk,h1,hj⟩ <;> rcases h' with ⟨rfl,rfl,g1⟩ | ⟨rfl,k',rfl,xa,g1,xb⟩
 ·exact ⟨rfl,rfl⟩
 ·exact absurd (h1 k' xa) g1
 ·exact absurd (g1 k hk) h1
 ·rcases Nat.lt_trichotomy k k' with hl | rfl | hl
  ·exact absurd (xb k hl) h1
  ·exact ⟨rfl,rfl⟩
  ·exact absurd (hj k' hl) g1
theorem I9.unique {e e' a':Int} (h:I9 g e a) (h':I9 g e' a'):e=e'/\a=a':=by
 rcases h with ⟨h1,rfl⟩ | ⟨h1,⟨h2,rfl⟩ | ⟨h2,⟨h3,rfl⟩ | ⟨h3,rfl,rfl⟩⟩⟩ <;> rcases h' with ⟨g1,rfl⟩ | ⟨g1,⟨g2,rfl⟩ | ⟨g2,⟨g3,rfl⟩ | ⟨g3,rfl,rfl⟩⟩⟩
 all_goals first
  | exact ⟨rfl,rfl⟩
  | exact absurd (h1.unique g1).2 R3
  | exact absurd (h2.unique g2).2 R3
  | exact absurd (h3.unique g3).2 R3
  | exact ⟨rfl,(h1.unique g1).1⟩
  | exact ⟨rfl,(h2.unique g2).1⟩
  | exact ⟨rfl,(h3.unique g3).1⟩
def eH (g:PgR) (w:World) (e:Ending) (w':World):Prop:=∃x a,e=.returned (.tuple #[.int .i64 x,.int .i64 a])/\I9 g x a/\L0d w w'
theorem O2 (x a:Int) (he:e=.returned (.tuple #[.int .i64 x,.int .i64 a])) (hs:I9 g x a) (hb:L0d w w'):eH g w e w':=⟨x,a,he,hs,hb⟩
theorem oC (g:PgR) (w:World) (hg:I5 w.heap.size w g) (ht:Tab w) :
  Calls prog 95 #[.agg #[.slice g.a g.n g.c]] w fun e w'=>eH g w e w':=by
 have xj:=ht.1;go_enter func95,ntmps95;go_wp2_with fail;have xf:L0d w (w.alloc (Obj.cells #[.slice g.a g.n g.c] 41)):=(L3b _ _).alloc (L1c _) _;have k0:(w.alloc (Obj.cells #[.slice g.a g.n g.c] 41)).cell? ⟨w.heap.size,0,none⟩=some (.slice g.a g.n g.c):=by go_simp
 have xu:(w.alloc (Obj.cells #[.slice g.a g.n g.c] 41)).heap.size=w.heap.size+1:=by simp
 generalize w.alloc (Obj.cells #[.slice g.a g.n g.c] 41)=W at *
 have xn:I5 W.heap.size W g:=(hg.below xf).mono xf.size;refine (lH g W xn).mono ?_;rintro e w2 ⟨xt,xp,rfl,xc,xg⟩;have xb:L0d w w2:=xf.trans (xg.mono xf.size);have k2:w2.cell? ⟨w.heap.size,0,none⟩=some (.slice g.a g.n g.c):=by rw [xg.cell (by show w.heap.size < W.heap.size;omega)];exact k0
 have xr:=xg.size
 cases xp
 ·go_wp2_with fail
  go_ret2;exact O2 1 xt rfl (L4a ⟨xc,rfl⟩) xb
 obtain⟨hS,rfl⟩:=xc.all;clear xg k0;go_wp2_with fail;refine (nC g w2 ((hg.below xb).mono xb.size) hS (ht.below xj xb)).mono ?_;rintro e w3 ⟨xl,xo,rfl,xd,xe⟩;have xa:L0d w w3:=xb.trans (xe.mono xb.size);have k3:w3.cell? ⟨w.heap.size,0,none⟩=some (.slice g.a g.n g.c):=by rw [xe.cell (by show w.heap.size < w2.heap.size;omega)];exact k2
 have xm:=xe.size
 cases xo
 ·go_wp2_with fail
  go_ret2;exact O2 2 xl rfl (L4b ⟨xc,L4a ⟨xd,rfl⟩⟩) xa
 obtain⟨hL,rfl⟩:=xd.all;clear xe k2;go_wp2_with fail;refine (jD g w3 ((hg.below xa).mono xa.size) hS hL (ht.below xj xa)).mono ?_;rintro e w4 ⟨xq,xs,rfl,xh,xk⟩;have xi:L0d w w4:=xa.trans (xk.mono xa.size)
 cases xs
 ·go_wp2_with fail
  go_ret2;exact O2 3 xq rfl (L4b ⟨xc,L4b ⟨xd,L4a ⟨xh,rfl⟩⟩⟩) xi
 obtain rfl:=xh.zero;go_wp2_with fail;go_ret2;exact O2 0 0 rfl (L4b ⟨xc,L4b ⟨xd,L4b ⟨xh,rfl,rfl⟩⟩⟩) xi
end
theorem vW:(prog.info? 90).map (fun i=>(i.zero,i.size,i.bytes))=some (some (.agg #[.int .u8 0,.slice none 0 0]),2,32):=by kernel_rfl
def K9:ObR:=⟨0,.slice none 0 0,[]⟩
def a1U (n:Nat) (w:World) (e:Ending) (w':World):Prop :=
 ∃b,e=.returned (.agg #[.slice (some ⟨b,0,none⟩) n n,.slice none 0 0])/\w'.ownsRow w.heap.size 90 2 (.slice (some ⟨b,0,none⟩) n n) n ((List.replicate n K9).flatMap ObR.cells)/\L0d w w'
theorem tC (n:Nat):(madeCells #[.int .u8 0,.slice none 0 0] (n*2)).toList=(List.replicate n K9).flatMap ObR.cells:=by
 rw[a5D];induction n with
 | zero=>rfl
 | succ n ih=>rw [List.replicate_succ,List.replicate_succ,List.flatten_cons,ih];rfl
theorem tF (n:Nat) (w:World) (hn:n<=40):Calls prog 117 #[.int .i64 (n:Int)] w fun e w'=>a1U n w e w':=by
 obtain⟨xd,hi,hz,xa,xc⟩:=info_parts vW;have xb:Hid (∀W:World,(Instr.makeSlice 74 (.int .i64 (n:Int)) (.int .i64 (n:Int))).run prog W=.ok (.slice (some ⟨W.heap.size,0,none⟩) n n) (W.alloc (.cells (madeCells #[.int .u8 0,.slice none 0 0] (n*2)) 90))):=by
  intro W;have hr:=run_make (P:=prog) W 74 90 xd _ underlying74 hi hz .i64 .i64 n n R4 (Int.le_refl _) (by rw [xc];omega) R4;simpa [xa,Value.cells] using hr
 have xe:=xb.out;clear hi hz xa xc xb;go_enter func117,ntmps117;go_wp2_with fail;refine bodyPost_ret (v:=.agg #[.slice (some ⟨w.heap.size+1,0,none⟩) n n,.slice none 0 0]) (by simp [results,results117,go_sem]) rfl ⟨_,rfl,?_,P8⟩;have:=World.ownsRow_lit (base:=w.heap.size) (e:=90) (size:=2) (w.alloc (Obj.cells #[.slice (some ⟨w.heap.size+1,0,none⟩) n n,.slice none 0 0] 105)) (madeCells #[.int .u8 0,.slice none 0 0] (n*2)) n R5 Q5 (by rw [size_madeCells])
 rw[tC] at this;simpa using this
def Z9 (g g':PgR):Prop:=g'.n=g.n/\∀j,j < g.n->(g'.f j).p=(g.f j).p/\(g'.f j).l=(g.f j).l/\(g'.f j).n=(g.f j).n/\(g'.f j).op=(g.f j).op/\(g'.f j).ar=(g.f j).ar
structure rG (g:PgR) (cap:Nat) (R:McR):Prop where
 st:R.st=0
 out:R.out=[]
 frs:∃lv,R.frs=[⟨0,0,lv,.slice none 0 0,List.replicate (g.f 0).l.toNat (0,0),[]⟩]
 obs:R.obs=List.replicate cap K9
 ov:R.ov=.slice none 0 0
 dr:R.dr=[]
def O9 (mb hb:Nat):Own:=fun k=>if k=mb then some .mach else if k=hb then some .slots else none
theorem qB {w4:World} {g':PgR} {hb cap base:Nat} (hpg:I5 w4.heap.size w4 g') (ht:Tab w4) (hrow:w4.ownsRow base 90 2 (.slice (some ⟨hb,0,none⟩) cap cap) cap ((List.replicate cap K9).flatMap ObR.cells)) (hne:∀k,g'.blk k->k≠hb) (h0:hb≠0) :
  A4 (w4.alloc (Obj.cells #[.slice g'.a g'.n g'.c,.int .i64 0,.slice none 0 0,.slice none 0 0,.slice (some ⟨hb,0,none⟩) cap cap,.slice none 0 0] 107)) (O9 w4.heap.size hb) w4.heap.size g'
   ⟨0,.slice none 0 0,[],.slice none 0 0,[],.slice (some ⟨hb,0,none⟩) cap cap,List.replicate cap K9,.slice none 0 0,[]⟩:=by
 have xc:hb < w4.heap.size:=(R6 hrow).2;have xb:(w4.alloc (Obj.cells #[.slice g'.a g'.n g'.c,.int .i64 0,.slice none 0 0,.slice none 0 0,.slice (some ⟨hb,0,none⟩) cap cap,.slice none 0 0] 107)).heap.size=w4.heap.size+1:=by simp
 have xa:∀k,k < w4.heap.size->(w4.alloc (Obj.cells #[.slice g'.a g'.n g'.c,.int .i64 0,.slice none 0 0,.slice none 0 0,.slice (some ⟨hb,0,none⟩) cap cap,.slice none 0 0] 107)).heap[k]?=w4.heap[k]?:=fun k hk=>Below.heap_alloc _ _ _ hk
 refine⟨fun k t hk=>?_,by simp [O9],by go_simp,by go_simp,by go_simp,by go_simp,by go_simp,fun j=>by go_simp,⟨World.ownsRow_nil _ _ _ _,fun b hb=>by cases hb⟩,⟨World.ownsRow_nil _ _ _ _,fun b hb=>by cases hb⟩,⟨?_,fun b hb'=>?_⟩,fun i f hf=>by simp at hf,fun i f hf=>by simp at hf,fun j o ho=>?_,
  hpg.held R4 fun k hk=>xa k (hpg.blk_lt hk),fun k hk=>?_,ht.held R4 (xa 0 ht.1),?_,by go_simp,⟨World.ownsRow_nil _ _ _ _,fun b hb=>by cases hb⟩⟩
 ·unfold O9 at hk
  split at hk
  ·omega
  ·split at hk
   ·omega
   ·cases hk
 ·have:=D6 (hrow.alloc (Obj.cells #[.slice g'.a g'.n g'.c,.int .i64 0,.slice none 0 0,.slice none 0 0,.slice (some ⟨hb,0,none⟩) cap cap,.slice none 0 0] 107)) (L4c _)
  simpa using this
 ·obtain rfl:hb=b:=by simpa [Value.ownBlock] using hb'
  unfold O9;rw[if_neg R4,if_pos rfl]
 ·have:o=K9:=by
   have:=L2a ho;simp at this;exact this.2
  subst this;exact⟨World.ownsRow_nil _ _ _ _,fun b hb=>by cases hb⟩
 ·have h1:=hpg.blk_lt hk
  have h2:=hne k hk;unfold O9;rw[if_neg R4,if_neg h2]
 ·have:=ht.1
  unfold O9;rw[if_neg R4,if_neg (Ne.symm h0)]
theorem A2.below {own own':Own} {w w':World} (h:A2 own w own' w') {B:Nat} (hB:B<=w.heap.size) (hno:∀k,k < B->own k=none):Below B w w' :=
 ⟨h.os,h.tape,h.output,h.size,fun k hk=>h.block k (L0a hk hB) (hno k hk)⟩
section
variable {Bk C:Nat->Nat} {g:PgR} {q:Nat}
def kR (B:Nat) (w:World) (f:FnR) (b c:Nat):Prop:=w.ownsRow B 165 2 (.slice (some ⟨b,0,none⟩) f.n c) f.n (J9 f)
def yS (g:PgR) (q:Nat) (W1 wr:World) (i:Nat):Prop :=
 ∃(Bk C:Nat->Nat) (cv:Value),wr.cell? ⟨q,0,none⟩=some cv/\wr.frozen? ⟨q,0,none⟩=false/\wr.ownsRow (q+1) 163 3 cv i (E1 g Bk C i) /\
  (∀j,j < i->kR (q+1) wr (g.f j) (Bk j) (C j))/\Below q W1 wr/\q+1<=wr.heap.size
theorem qJ {W1 wr w2 w5:World} {i:Nat} {cv:Value} {lb lc cb cc:Nat} {o:Obj} (hown:wr.ownsRow (q+1) 163 3 cv i (E1 g Bk C i))
  (hcopy:∀j,j < i->kR (q+1) wr (g.f j) (Bk j) (C j)) (hbel:Below q W1 wr) (hsz:q+1<=wr.heap.size) (hB2w:L0d wr w2)
  (hcopyN:kR (wr.heap.size+1) w2 (g.f i) lb lc) (hq2:w2.cell? ⟨q,0,none⟩=some cv) (hf2:w2.frozen? ⟨q,0,none⟩=false) (hgrow:(w2.alloc o).grownBy w5 cv.ownBlock)
  (hown5:w5.ownsRow (q+1) 163 3 (.slice (some ⟨cb,0,none⟩) (i+1) cc) (i+1) (E1 g Bk C i++[.int .i64 (g.f i).p,.int .i64 (g.f i).l,.slice (some ⟨lb,0,none⟩) (g.f i).n lc])) :
  w5.cell? ⟨q,0,none⟩=some cv/\w5.frozen? ⟨q,0,none⟩=false/\yS g q W1 (w5.setCell ⟨q,0,none⟩ (.slice (some ⟨cb,0,none⟩) (i+1) cc)) (i+1):=by
 have xk:=hB2w.size;have xb:some q≠cv.ownBlock:=fun e=>by have:=(hown.lt q e.symm).1;omega
 have hq:w5.cell? ⟨q,0,none⟩=some cv:=by
  rw[hgrow.cell_far ⟨q,0,none⟩ Q8 xb,<- hq2];exact L0b (Below.heap_alloc _ _ _ (by show q < _;omega))
 have xf:w5.frozen? ⟨q,0,none⟩=false:=by
  rw[hgrow.frozen_far ⟨q,0,none⟩ Q8 xb,<- hf2];exact L0c (Below.heap_alloc _ _ _ (by show q < _;omega))
 refine⟨hq,xf,?_⟩;have xa:=hown.lt;obtain⟨xh,xd,_,_,_⟩:=I6 hcopyN;have xl:w2.heap.size+1<=w5.heap.size:=by have:=hgrow.size;simpa using this
 have xe:∀b,b < w2.heap.size->cv.ownBlock≠some b->b≠q->(w5.setCell ⟨q,0,none⟩ (.slice (some ⟨cb,0,none⟩) (i+1) cc)).heap[b]?=w2.heap[b]?:=fun b hb xb hbq=>by
  rw[Below.heap_setCell _ _ _ _ hbq,hgrow.block b Q8 (fun e=>xb e.symm)];exact Below.heap_alloc _ _ _ hb
 refine⟨fun j=>if j=i then lb else Bk j,fun j=>if j=i then lc else C j,.slice (some ⟨cb,0,none⟩) (i+1) cc,by go_simp,by go_simp,?_,fun j hj=>?_,?_,by simp;omega⟩
 ·have h1:=ownsRow_setCell_below hown5 (a:=⟨q,0,none⟩) R5 (.slice (some ⟨cb,0,none⟩) (i+1) cc)
  have h2:E1 g (fun j=>if j=i then lb else Bk j) (fun j=>if j=i then lc else C j) (i+1)=E1 g Bk C i++[.int .i64 (g.f i).p,.int .i64 (g.f i).l,.slice (some ⟨lb,0,none⟩) (g.f i).n lc]:=by
   unfold E1;rw[Y4,jW (c':=fun j=>.slice (some ⟨Bk j,0,none⟩) (g.f j).n (C j)) (fun j hj=>by simp only [if_neg (show ¬j=i by omega)])];simp
  rw[h2];exact h1
 ·by_cases e:j=i
  ·subst e
   simp only[if_pos];refine D6 (J3 hcopyN (xe lb xd (fun h=>?_) R4)) R4;have:=(xa lb h).2;omega
  ·simp only [if_neg e]
   have hc:=hcopy j R4;obtain⟨h1,h2,_,_,xj,xc⟩:=I6 hc;refine J3 hc ((xe (Bk j) R4 (fun h=>?_) R4).trans (hB2w.block _ h2));rcases hown.2 with ⟨h0,_⟩ | ⟨gb,xi,xg,hv,_,hh,_⟩
   ·rw [h0] at h;cases h
   ·rw [hv] at h
    have:gb=Bk j:=by simpa [Value.ownBlock] using h
    rw[this,xc] at hh;have:=L5b hh;simp at this
 ·refine Below.setCell (p:=⟨q,0,none⟩) ?_ (L1c _) _
  have h2:Below q W1 w2:=hbel.trans (hB2w.mono R4);exact (h2.alloc R4 o).grown hgrow Q8 (fun k hk=>by have:=(xa k hk).1;omega)
theorem a1g {w wf:World} {fb fc:Nat} (hrow:wf.ownsRow (q+1) 163 3 (.slice (some ⟨fb,0,none⟩) g.n fc) g.n (E1 g Bk C g.n)) (hcode:∀j,j < g.n->kR (q+1) wf (g.f j) (Bk j) (C j)) (hB:L0d w wf) (hq:w.heap.size<=q) (hn:g.n<=1000) (hc:∀j,j < g.n->(g.f j).n<=1000) :
  aW g w (.returned (.agg #[.slice (some ⟨fb,0,none⟩) g.n fc])) wf:=by
 refine⟨⟨some ⟨fb,0,none⟩,g.n,fc,fb,0,fun j=>{ g.f j with a:=some ⟨Bk j,0,none⟩,c:=C j,b:=Bk j,o:=0 }⟩,rfl,⟨by show g.n<=_;omega,fun _=>?_,fun i hi=>⟨by show (g.f i).n<=_;have:=hc i hi;omega,fun _=>?_⟩⟩,?_,hB,rfl,fun j hj=>⟨rfl,rfl,rfl,rfl,rfl⟩⟩
 ·refine ⟨rfl,(I6 hrow).2.1,fun i hi=>?_⟩
  have xb:i < g.n:=hi;obtain⟨q0,q1,q2⟩:=oF (a:=fun j=>Value.int .i64 (g.f j).p) (b:=fun j=>Value.int .i64 (g.f j).l) (c:=fun j=>Value.slice (some ⟨Bk j,0,none⟩) (g.f j).n (C j)) xb;have e0:=hrow.cellAt (i*3) R4;have e1:=hrow.cellAt (i*3+1) R4;have e2:=hrow.cellAt (i*3+2) R4;simp only[Nat.zero_add];exact⟨e0.trans q0,e1.trans q1,e2.trans q2⟩
 ·have h3:=hcode i hi
  refine⟨rfl,(I6 h3).2.1,fun j hj=>?_⟩;have xa:j < (g.f i).n:=hj;obtain⟨q1,q2⟩:=bZ (a:=fun j=>Value.int .i64 ((g.f i).op j)) (b:=fun j=>Value.int .i64 ((g.f i).ar j)) xa;have e0:=h3.cellAt (j*2) R4;have e1:=h3.cellAt (j*2+1) R4;simp only[Nat.zero_add];exact⟨e0.trans q1,e1.trans q2⟩
 ·rintro k (⟨_,rfl⟩ | ⟨i,hi,_,rfl⟩)
  ·have:=(I6 hrow).1
   omega
  ·have:=(I6 (hcode i hi)).1
   show w.heap.size<=Bk i;omega
theorem a1f (g:PgR) (w:World) (hg:I5 w.heap.size w g) (hn1:1<=g.n) (hn8:g.n<=1000) (hcn:∀j,j < g.n->1<=(g.f j).n/\(g.f j).n<=1000) :
  Calls prog 93 #[.agg #[.slice g.a g.n g.c]] w fun e w'=>aW g w e w':=by
 obtain⟨yt,ya,yb,yc,xt⟩:=info_parts a2H;obtain⟨yq,xy,xx,xp,xw⟩:=info_parts a2I;go_enter func93,ntmps93;go_wp2_with fail;generalize hqW1:(((w.alloc (Obj.cells #[.slice g.a g.n g.c] 41)).alloc (Obj.cells #[.slice none 0 0] 41)).alloc (Obj.cells #[.slice none 0 0] 41))=W1 at *
 have p0:W1.cell? ⟨w.heap.size,0,none⟩=some (.slice g.a g.n g.c):=by subst hqW1;go_simp
 have r0:W1.cell? ⟨w.heap.size+1,0,none⟩=some (.slice none 0 0):=by subst hqW1;go_simp
 have rf:W1.frozen? ⟨w.heap.size+1,0,none⟩=false:=by subst hqW1;go_simp
 have q0:W1.cell? ⟨w.heap.size+1+1,0,none⟩=some (.slice none 0 0):=by subst hqW1;go_simp
 have qf:W1.frozen? ⟨w.heap.size+1+1,0,none⟩=false:=by subst hqW1;go_simp
 have xo:L0d w W1:=by subst hqW1;repeat (first | exact L3b _ _ | refine L3a ?_ Q1 _)
 have ym:W1.heap.size=w.heap.size+1+1+1:=by subst hqW1;simp
 clear hqW1;obtain⟨q,hq⟩:∃q,q=w.heap.size+1+1:=⟨_,rfl⟩
 rw[<- hq] at q0 qf ym ⊢;have yw:w.heap.size+1 < q:=by omega
 have yz:w.heap.size < q:=by omega
 clear hq;go_loopw [4] (fun v wr=>∃i:Nat,i<=g.n/\v=.int .i64 i/\yS g q W1 wr i) (fun v _=>g.n - (intOf v).toNat)
 case atStart=>exact ⟨0,L4c _,rfl,fun _=>0,fun _=>0,.slice none 0 0,q0,qf,World.ownsRow_nil _ _ _ _,fun j hj=>by omega,L3b _ _,by omega⟩
 case round =>
  obtain⟨i,hi,rfl,Bk,C,cv,yp,yn,xc,xi,xb,yu⟩:=hrel;have xa:L0d w wr:=xo.trans (xb.mono R4);have k0:wr.cell? ⟨w.heap.size,0,none⟩=some (.slice g.a g.n g.c):=by rw [xb.cell (by show w.heap.size < q;omega)];exact p0
  have zb:w.heap.size < wr.heap.size:=by omega
  have za:q < wr.heap.size:=by omega
  have xg:=(show Hid _ from xi);clear xi;by_cases hlt:i < g.n
  ·obtain ⟨ha,hb,hc⟩:=hg.2.1 R4
   obtain⟨c0,c1,c2⟩:=hc i hlt;rw[<- xa.cell (p:=⟨g.b,_,none⟩) hb] at c0 c1 c2;clear hc;have zc:g.b < wr.heap.size:=by omega
   rw[ha] at k0;have HA:=(show Hid _ from ha);clear ha;have xj:L4 w.heap.size wr (g.f i):=(hg.2.2 i hlt).below xa;obtain⟨yy,yv⟩:=hcn i hlt;have xe:L4 w.heap.size (wr.alloc (Obj.cells #[.int .i64 (g.f i).p,.int .i64 (g.f i).l,.slice (g.f i).a (g.f i).n (g.f i).c] 163)) (g.f i):=xj.below ((L3b _ _).alloc R4 _);have xv:Hid ((g.f i).a=none->(g.f i).n=0/\(g.f i).c=0):=hid fun e=>by have:=(xj.2 R4).1;rw [e] at this;cases this
   go_wp2_with (at_builtin;refine bM _ rfl (.tmp 19) (.tmp 21) 161 rfl (wr.heap.size+1) 165 yq _ 2 16 underlying161 xy xx xp xw rfl R3 rfl (g.f i).a (g.f i).n (g.f i).c (J9 (g.f i)) rfl (I1 _ _ _) xv.out (iF xe) jF Q5 R4 R5 ?_)
   intro lv w1 hown1 hgrow1;have xd:Below (wr.alloc (Obj.cells #[.int .i64 (g.f i).p,.int .i64 (g.f i).l,.slice (g.f i).a (g.f i).n (g.f i).c] 163)).heap.size (wr.alloc (Obj.cells #[.int .i64 (g.f i).p,.int .i64 (g.f i).l,.slice (g.f i).a (g.f i).n (g.f i).c] 163)) w1:=⟨hgrow1.os,hgrow1.tape,hgrow1.output,hgrow1.size,fun k hk=>hgrow1.block k hk R5⟩;have yj:wr.heap.size+1<=w1.heap.size:=by have:=hgrow1.size;simpa using this
   obtain⟨lb,lc,rfl⟩:∃lb lc,lv=.slice (some ⟨lb,0,none⟩) (g.f i).n lc:=by
    rcases hown1.2 with ⟨_,h0⟩ | ⟨gb,xz,yk,hv,_⟩
    ·omega
    ·exact ⟨gb,xz,hv⟩
   have xh:w1.ownsRow (q+1) 163 3 cv i (E1 g Bk C i):=by
    refine (xc.alloc _).kept (row:=none) ⟨xd.os,xd.tape,xd.output,xd.size,fun k hk _=>xd.block k hk⟩ ?_
    cases hv:cv.ownBlock with
    | none=>exact L4a rfl
    | some k=>exact L4b R5
   have x0:w1.cell? ⟨wr.heap.size,0,none⟩=some (.int .i64 (g.f i).p):=by rw [xd.cell R5];go_simp
   have x1:w1.cell? ⟨wr.heap.size,1,none⟩=some (.int .i64 (g.f i).l):=by rw [xd.cell R5];go_simp
   have xq:w1.cell? ⟨q,0,none⟩=some cv:=by rw [xd.cell Q8];go_simp
   have xf:w1.frozen? ⟨q,0,none⟩=false:=by rw [xd.frozen Q8];go_simp
   have xn:L0d wr w1:=((L3b _ _).alloc (L1c _) _).trans (xd.mono R5);have yf:Hid (kR (wr.heap.size+1) w1 (g.f i) lb lc):=hid hown1;have xs:=hid xb;have xu:=hid xn;have xk:=hid xc;have xl:=hid xh;clear hgrow1 hown1 xd c0 c1 c2 k0 yp yn xe xb xa xn xc xh xj;obtain⟨fb,yd⟩:∃fb,fb=wr.heap.size:=⟨_,rfl⟩
   rw[<- yd] at x0 x1 ⊢;have yr:fb < w1.heap.size:=by omega
   have yg:q < w1.heap.size:=by omega
   have yi:q < fb:=by omega
   have yx:=(show Hid _ from yd);clear yd;go_wp2_with (at_builtin;go_must (refine wpList_append_lies _ rfl (.tmp 24) (.tmp 31) 39 rfl (q+1) 163 yt _ 3 40 underlying39 ya yb yc xt rfl R3 cv i (E1 g Bk C i) rfl (xl.out.alloc _) ⟨w1.heap.size,0,none⟩ 1 1 [.int .i64 (g.f i).p,.int .i64 (g.f i).l,.slice (some ⟨lb,0,none⟩) (g.f i).n lc] rfl rfl (World.news_of_block (cs:=#[.int .i64 (g.f i).p,.int .i64 (g.f i).l,.slice (some ⟨lb,0,none⟩) (g.f i).n lc]) (t:=163) (fr:=(0,0)) (Go.Deep.blk_alloc_new _ _)) (lU _ _ _ _ _) R4 Q5 R4 Q8 (w1.heap.size+1) R5 ?_))
   intro cb cc w5 hown5 hgrow5 hat5 hlt5;obtain⟨y0,y1,ye⟩:=qJ xk.out xg.out xs.out yu xu.out yf.out xq xf hgrow5 hown5;have yl:q < w5.heap.size:=by have:=hgrow5.size;simp at this;omega
   have yo:=hid ye;clear ye hgrow5 hown5 hat5 hlt5;go_wp2_with fail;go_roundw
   case rel=>exact ⟨i+1,by omega,by go_num,yo.out⟩
   case measure=>simp [intOf];omega
  ·have ys:i=g.n:=by omega
   subst ys;obtain⟨cb,cc,rfl⟩:∃cb cc,cv=.slice (some ⟨cb,0,none⟩) g.n cc:=by
    rcases xc.2 with ⟨_,h0⟩ | ⟨gb,xz,yk,hv,_⟩
    ·omega
    ·exact ⟨gb,xz,hv⟩
   have yh:w.heap.size+1 < wr.heap.size:=by omega
   have m0:wr.cell? ⟨w.heap.size+1,0,none⟩=some (.slice none 0 0):=by rw [xb.cell (by show w.heap.size+1 < q;omega)];exact r0
   have mf:wr.frozen? ⟨w.heap.size+1,0,none⟩=false:=by rw [xb.frozen (by show w.heap.size+1 < q;omega)];exact rf
   have xr:(wr.setCell ⟨w.heap.size+1,0,none⟩ (.slice (some ⟨cb,0,none⟩) g.n cc)).cell? ⟨w.heap.size+1,0,none⟩=some (.slice (some ⟨cb,0,none⟩) g.n cc):=by go_simp
   have xk:=hid xc;have xm:=hid xa;clear xc xa xb;go_wp2_with fail;refine bodyPost_ret (v:=.agg #[.slice (some ⟨cb,0,none⟩) g.n cc]) (by simp [results,results93,go_sem,xr]) rfl (a1g (ownsRow_setCell_below xk.out (a:=⟨w.heap.size+1,0,none⟩) (by show w.heap.size+1 < q+1;omega) _) (fun j hj=>?_) (xm.out.setCell (p:=⟨w.heap.size+1,0,none⟩) (by show w.heap.size<=w.heap.size+1;omega) _) R4 hn8 (fun j hj=>(hcn j hj).2))
   exact ownsRow_setCell_below (xg.out j hj) (a:=⟨w.heap.size+1,0,none⟩) (by show w.heap.size+1 < q+1;omega) _
end
theorem cQ (g:PgR) (w:World) (hg:I5 w.heap.size w g) :
  Calls prog 59 #[.agg #[.slice g.a g.n g.c]] w fun e w'=>eH g w e w':=by
 have hn:=hg.1;by_cases h8:1<=g.n/\g.n<=8
 ·obtain ⟨xp,xo⟩:=h8
  obtain⟨ha,hb,hc⟩:=hg.2.1 R4;have HC:=(show Hid _ from hc);clear hc;have HA:=(show Hid _ from ha);have xn:(w.alloc (Obj.cells #[.slice g.a g.n g.c] 41)).cell? ⟨w.heap.size,0,none⟩=some (.slice g.a g.n g.c):=by go_simp
  rw[ha] at xn ⊢;clear ha;go_enter func59,ntmps59;go_wp2
  have xd:L0d w (w.alloc (Obj.cells #[.slice (some ⟨g.b,g.o,none⟩) g.n g.c] 41)):=(L3b _ _).alloc (L1c _) _;have yl:(w.alloc (Obj.cells #[.slice (some ⟨g.b,g.o,none⟩) g.n g.c] 41)).heap.size=w.heap.size+1:=by simp
  generalize w.alloc (Obj.cells #[.slice (some ⟨g.b,g.o,none⟩) g.n g.c] 41)=W1 at *
  go_loopw [4] (fun i wr=>∃k:Nat,k<=g.n/\i=.int .i64 k/\(∀j:Nat,j < k->Y9 j (g.f j).p (g.f j).l (g.f j).n=true)/\L0d W1 wr) (fun i _=>g.n - (intOf i).toNat)
  case atStart=>exact ⟨0,L4c _,rfl,fun j hj=>by omega,L3b _ _⟩
  case round =>
   obtain⟨k,hk,rfl,xc,xb⟩:=hrel;have xe:=(show Hid _ from xc);clear xc;have xk:=xb.size;have xl:w.heap.size < wr.heap.size:=by omega
   have xa:L0d w wr:=xd.trans (xb.mono R4);have k0:wr.cell? ⟨w.heap.size,0,none⟩=some (.slice (some ⟨g.b,g.o,none⟩) g.n g.c):=by rw [xb.cell (by show w.heap.size < W1.heap.size;omega)];exact xn
   by_cases hlt:k < g.n
   ·obtain ⟨c0,c1,c2⟩:=HC.out k hlt
    rw[<- xa.cell (p:=⟨g.b,_,none⟩) hb] at c0 c1 c2;have xw:g.b < wr.heap.size:=by omega
    have xy:=(hg.2.2 k hlt).1
    cases hs:Y9 k (g.f k).p (g.f k).l (g.f k).n
    ·go_wp2_with fail
     refine (oP _ _ _ _ _ _ _ xy).mono ?_;rintro e w2 ⟨rfl,xh⟩;rw[hs];go_wp2_with fail;go_ret2;exact O2 1 k rfl (L4a ⟨L4b (L4b ⟨rfl,xp,xo,k,rfl,hlt,hs,xe.out⟩),rfl⟩) (C5 xh xa Q1)
    ·go_wp2_with fail
     refine (oP _ _ _ _ _ _ _ xy).mono ?_;rintro e w2 ⟨rfl,xh⟩;rw[hs];go_wp2_with fail;go_roundw
     case rel=>exact ⟨k+1,by omega,by go_num,fun t ht=>by
      by_cases e:t=k
      ·subst e;exact hs
      ·exact xe.out t R4,C5 xh xb Q1⟩
     case measure=>simp [intOf];omega
   ·have hS:T7 g:=⟨xp,xo,fun i hi=>xe.out i R4⟩
    have xr:W8 g 0 true:=L4a ⟨rfl,rfl,xp,xo,hS.2.2⟩;go_wp2_with fail;clear k0;go_loopw [6] (fun i wr=>∃k:Nat,k<=g.n/\i=.int .i64 k/\(∀i,i < k->∀j,j < (g.f i).n->N5 g i j=true)/\L0d W1 wr) (fun i _=>g.n - (intOf i).toNat)
    case atStart=>exact ⟨0,L4c _,rfl,fun j hj=>by omega,xb⟩
    case round =>
     clear xe xb xk xl xa hlt;obtain⟨k,hk,rfl,xc,xb⟩:=hrel;have xe:=(show Hid _ from xc);clear xc;have xk:=xb.size;have xl:w.heap.size < wr.heap.size:=by omega
     have xa:L0d w wr:=xd.trans (xb.mono R4);have k0:wr.cell? ⟨w.heap.size,0,none⟩=some (.slice (some ⟨g.b,g.o,none⟩) g.n g.c):=by rw [xb.cell (by show w.heap.size < W1.heap.size;omega)];exact xn
     by_cases hlt:k < g.n
     ·obtain ⟨yf,yd,ya,yc,_,_⟩:=hS.bd hlt
      obtain⟨xu,yh,xz⟩:=(hg.2.2 k hlt).2 yf;have yj:=(show Hid _ from xz);clear xz;have yi:=(show Hid _ from xu);clear xu;go_wp2_with fail;clear k0;go_loopw [7] (fun i wx=>∃j:Nat,j<=(g.f k).n/\i=.int .i64 j/\(∀t,t < j->N5 g k t=true)/\L0d W1 wx) (fun i _=>(g.f k).n - (intOf i).toNat)
      case atStart=>exact ⟨0,L4c _,rfl,fun j hj=>by omega,xb⟩
      case round =>
       clear xb xk xl xa;obtain⟨j,hj,rfl,xg,xb⟩:=hrel;have xi:=(show Hid _ from xg);clear xg;have xk:=xb.size;have xl:w.heap.size < wr.heap.size:=by omega
       have xa:L0d w wr:=xd.trans (xb.mono R4);have k0:wr.cell? ⟨w.heap.size,0,none⟩=some (.slice (some ⟨g.b,g.o,none⟩) g.n g.c):=by rw [xb.cell (by show w.heap.size < W1.heap.size;omega)];exact xn
       obtain⟨c0,c1,c2⟩:=HC.out k hlt;rw[<- xa.cell (p:=⟨g.b,_,none⟩) hb] at c0 c1 c2;rw[yi.out] at c2;have xw:g.b < wr.heap.size:=by omega
       by_cases hjl:j < (g.f k).n
       ·obtain ⟨o0,o1⟩:=yj.out j hjl
        rw[<- xa.cell (p:=⟨(g.f k).b,_,none⟩) yh] at o0 o1;have ye:(g.f k).b < wr.heap.size:=by omega
        have m0:=cell_regrown k0;have m1:=cell_regrown c0;have m2:=cell_regrown c1;have m3:=cell_regrown c2;have m4:=cell_regrown o0;have m5:=cell_regrown o1;have xj:Hid (∀d os,Calls prog 97 #[.agg #[.slice (some ⟨g.b,g.o,none⟩) g.n g.c],.agg #[.int .i64 (g.f k).p,.int .i64 (g.f k).l,.slice (some ⟨(g.f k).b,(g.f k).o,none⟩) (g.f k).n (g.f k).c],.agg #[.int .i64 ((g.f k).op j),.int .i64 ((g.f k).ar j)]] (grow (redrawn wr d) os) fun e w''=>e=.returned (.bool (N5 g k j))/\∃p:Regrown,w''=grow (redrawn wr p.d) p.os):=fun d os=>Calls.regrown_of (a0C _ _ _ _ _ _ _ _ _ _ _)
        cases hlj:N5 g k j
        ·rw [hlj] at xj
         go_wp2_with fail;clear k0 c0 c1 c2 o0 o1;refine wp_region_quiet_below Q7 Q7 ?_
         repeat (first
          | go_big_quiet_step ((go_at_call 97;exact xj.out _ _))
          | quiet_step ((go_at_call 97;exact xj.out _ _)))
         refine wpQuiet_nil ?_;intro _ hw';obtain⟨⟨dq,xs⟩,hw''⟩:=hw';subst hw'';clear m0 m1 m2 m3 m4 m5;go_wp2_with fail;go_ret2;exact O2 2 _ rfl (L4b ⟨xr,L4a ⟨L4b ⟨rfl,k,j,rfl,hlt,xe.out,hjl,hlj,xi.out⟩,rfl⟩⟩) (xa.trans ((below_regrown wr dq xs).mono xa.size))
        ·rw [hlj] at xj
         go_wp2_with fail;clear k0 c0 c1 c2 o0 o1;refine wp_region_quiet_below Q7 Q7 ?_
         repeat (first
          | go_big_quiet_step ((go_at_call 97;exact xj.out _ _))
          | quiet_step ((go_at_call 97;exact xj.out _ _)))
         refine wpQuiet_nil ?_;intro _ hw';obtain⟨⟨dq,xs⟩,hw''⟩:=hw';subst hw'';clear m0 m1 m2 m3 m4 m5;go_wp2_with fail;go_roundw
         case rel=>exact ⟨j+1,by omega,by go_num,fun t ht=>by
          by_cases e:t=j
          ·subst e;exact hlj
          ·exact xi.out t R4,xb.trans ((below_regrown wr dq xs).mono xb.size)⟩
         case measure=>simp [intOf];omega
       ·go_wp2_with fail
        go_roundw
        case rel=>exact ⟨k+1,by omega,by go_num,fun t ht j' hj'=>by
         by_cases e:t=k
         ·subst e;exact xi.out j' R4
         ·exact xe.out t R4 j' hj',xb⟩
        case measure=>simp [intOf];omega
     ·have hL:dH g:=fun i hi j hj=>xe.out i R4 j hj
      have xt:Z3 g 0 true:=L4a ⟨rfl,rfl,hL⟩;go_wp2_with fail;clear k0;go_loopw [9] (fun i wr=>∃k:Nat,k<=g.n/\i=.int .i64 k/\(∀i,i < k->(B6 g (g.f i)).Fits)/\L0d W1 wr) (fun i _=>g.n - (intOf i).toNat)
      case atStart=>exact ⟨0,L4c _,rfl,fun j hj=>by omega,xb⟩
      case round =>
       clear xe xb xk xl xa hlt;obtain⟨k,hk,rfl,xc,xb⟩:=hrel;have xe:=(show Hid _ from xc);clear xc;have xk:=xb.size;have xl:w.heap.size < wr.heap.size:=by omega
       have xa:L0d w wr:=xd.trans (xb.mono R4);have k0:wr.cell? ⟨w.heap.size,0,none⟩=some (.slice (some ⟨g.b,g.o,none⟩) g.n g.c):=by rw [xb.cell (by show w.heap.size < W1.heap.size;omega)];exact xn
       by_cases hlt:k < g.n
       ·obtain ⟨c0,c1,c2⟩:=HC.out k hlt
        rw[<- xa.cell (p:=⟨g.b,_,none⟩) hb] at c0 c1 c2;have xw:g.b < wr.heap.size:=by omega
        have HH:Hid (∀W,L0d wr W->Calls prog 98 #[.agg #[.slice (some ⟨g.b,g.o,none⟩) g.n g.c],.agg #[.int .i64 (g.f k).p,.int .i64 (g.f k).l,.slice (g.f k).a (g.f k).n (g.f k).c]] W fun e w'=>O8 g (g.f k) W e w'):=by
         intro W hW;have xv:L0d w W:=xa.trans (hW.mono xa.size);rw[<- HA.out];exact sU w.heap.size g (g.f k) W (L5a xa.size hW.size) (hg.below xv) ((hg.2.2 k hlt).below xv) (kO hS hL hlt)
        go_wp2_with fail;go_region_with ((go_at_call 98;refine (HH.out _ ?_).mono ?_;exact (L3b _ _).drew;rintro e w2 ⟨v,ok,rfl,xf,xh⟩))
        all_goals
         have yb:L0d w w2:=C5 xh xa.drew (by show w.heap.size<=wr.heap.size;omega);have yk:L0d W1 w2:=C5 xh xb.drew (by show W1.heap.size<=wr.heap.size;omega);clear xh k0 c0 c1 c2 HH
         cases ok
         ·have xx:¬(B6 g (g.f k)).Fits:=fun h=>by have:=xf.2 h;cases this
          have yg:=(show Hid _ from xx);clear xx xf;go_wp2_with fail;go_ret2;exact O2 3 k rfl (L4b ⟨xr,L4b ⟨xt,L4a ⟨L4b ⟨rfl,k,rfl,hlt,yg.out,xe.out⟩,rfl⟩⟩⟩) yb
         ·have xm:=xf.1 rfl
          have xq:=(show Hid _ from xm);clear xm xf;go_wp2_with fail;go_roundw
          case rel=>exact ⟨k+1,by omega,by go_num,fun t ht=>by
           by_cases e:t=k
           ·subst e;exact xq.out
           ·exact xe.out t R4,yk⟩
          case measure=>simp [intOf];omega
       ·go_wp2_with fail
        go_ret2;exact O2 0 0 rfl (L4b ⟨xr,L4b ⟨xt,L4b ⟨L4a ⟨rfl,rfl,fun i hi=>xe.out i R4⟩,rfl,rfl⟩⟩⟩) xa
 ·have hB:L0d w (w.alloc (Obj.cells #[.slice g.a g.n g.c] 41)):=(L3b _ _).alloc (L1c _) _
  by_cases h0:g.n < 1
  ·go_enter func59,ntmps59
   go_wp2
   go_ret2;exact O2 1 0 rfl (L4a ⟨L4b (L4a ⟨rfl,rfl,h8⟩),rfl⟩) hB
  ·have h9:8 < g.n:=by omega
   go_enter func59,ntmps59;go_wp2
   go_ret2;exact O2 1 0 rfl (L4a ⟨L4b (L4a ⟨rfl,rfl,h8⟩),rfl⟩) hB
end Go.Proofs.YtbkmgoffiigdbaaGreatDoor
