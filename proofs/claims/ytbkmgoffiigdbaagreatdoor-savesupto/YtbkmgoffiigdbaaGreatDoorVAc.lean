import Derived.Test.YtbkmgoffiigdbaaGreatDoorProg
import Derived.WalkKit
import Derived.WalkSpells
import Derived.Deep.Light
import Derived.Deep.OwnRows
import Derived.Deep.QuietTactic
import Derived.BigQuiet
import Derived.Deep.LoopGhost
import Derived.Lib.QuietBelow
namespace Go.Proofs.YtbkmgoffiigdbaaGreatDoor
open Go.RowKit Go.Sort Go.Proofs.Tryz
set_option maxHeartbeats 2000000
section
variable {g l n:Int} {p:Prop}
abbrev zA (b:Nat):Option Addr:=some ⟨b,0,none⟩
abbrev J (z:Int):Value:=.int .i64 z
abbrev zC (z:Int):Value:=.int .u8 z
abbrev zD:Value:=.slice none 0 0
abbrev zB (b:Nat):Value:=.pointer (some ⟨b,0,none⟩)
abbrev L0d (a b:World):=Below a.heap.size a b
theorem L0a {n m k:Nat} (h:n < m) (h':m<=k):n < k:=Nat.lt_of_lt_of_le h h'
theorem L0b {w w':World} {a:Addr} (h:w'.heap[a.block]?=w.heap[a.block]?):w'.cell? a=w.cell? a:=World.cell?_of_block h
theorem L0c {w w':World} {a:Addr} (h:w'.heap[a.block]?=w.heap[a.block]?):w'.frozen? a=w.frozen? a:=World.frozen?_of_block h
theorem L1a {α:Type _} {l:List α} {i:Nat} {a:α}:l[i]?=some a↔∃h:i < l.length,l[i]=a:=List.getElem?_eq_some_iff
theorem L1b {α:Type _} {l:List α} {i:Nat} (h:i < l.length):l[i]?=some l[i]:=List.getElem?_eq_getElem h
theorem L1c (n:Nat):n<=n:=Nat.le_refl n
theorem L2a {α:Type _} {l:List α} {i:Nat} {a:α} (h:l[i]?=some a):a∈l:=List.mem_of_getElem? h
theorem L2b {α:Type _} {l:Array α} {i:Nat} {a:α}:l[i]?=some a↔∃h:i < l.size,l[i]=a:=Array.getElem?_eq_some_iff
theorem L2c {α:Type _} [BEq α] [LawfulBEq α] {a b:α}:(a == b)=false↔a≠b:=beq_eq_false_iff_ne
theorem L3a {B:Nat} {a w:World} (h:Below B a w) (k:B<=w.heap.size) (o:Obj):Below B a (w.alloc o):=Below.alloc h k o
theorem L3b (B:Nat) (w:World):Below B w w:=Below.refl B w
theorem L3c {B:Nat} {a w:World} (h:Below B a w):Below B a w.drew:=Below.drew h
theorem L4a {a b:Prop} (h:a):a\/b:=Or.inl h
theorem L4b {a b:Prop} (h:b):a\/b:=Or.inr h
theorem L4c (n:Nat):0<=n:=Nat.zero_le n
theorem L5a {n m k:Nat} (h:n<=m) (h':m<=k):n<=k:=Nat.le_trans h h'
theorem L5b {α:Type _} {a b:α} (h:some a=some b):a=b:=Option.some.inj h
theorem L5c {a:Int} (h:0<=a):∃n:Nat,a=n:=Int.eq_ofNat_of_zero_le h
theorem P4 (h:p:=by repeat (first | exact Below.refl _ _ | refine Below.drew ?_ | refine Below.setCell ?_ (by first | omega | (simp;done) | (simp;omega)) _ | refine Below.alloc ?_ (by first | omega | (simp;done) | (simp;omega)) _)):p:=h
theorem P5 (h:p:=by repeat (first | exact Below.refl _ _ | refine Below.drew ?_ | refine Below.drewQ ?_ _ | refine Below.alloc ?_ (by first | (simp;done) | (simp;omega)) _)):p:=h
theorem P6 (h:p:=by repeat (first | exact Below.refl _ _ | refine Below.drew ?_ | refine Below.alloc ?_ (by first | omega | (simp;done) | (simp;omega)) _)):p:=h
theorem P7 (h:p:=by repeat (first | exact Below.refl _ _ | refine Below.drew ?_ | refine Below.alloc ?_ (by first | (simp;done) | (simp;omega)) _)):p:=h
theorem P8 (h:p:=by repeat (first | exact Below.refl _ _ | refine Below.alloc ?_ (by first | (simp;done) | (simp;omega)) _)):p:=h
theorem P9 (h:p:=by repeat (first | exact Below.refl _ _ | refine Below.drew ?_ | refine Below.alloc ?_ (by simp) _)):p:=h
theorem Q0 (h:p:=by repeat (first | exact Below.refl _ _ | refine Below.drew ?_ | refine Below.drewQ ?_ _)):p:=h
theorem Q1 (h:p:=by first | omega | (simp;done) | (simp;omega)):p:=h
theorem Q2 (h:p:=by first | (simp;done) | (simp;omega)):p:=h
theorem Q3 (h:p:=by first | rfl | simp [Act.eval]):p:=h
theorem Q4 (h:p:=by first | omega | (simp;omega)):p:=h
theorem Q7 (h:p:=by unfold maxLen;omega):p:=h
theorem Q8 (h:p:=by kernel_rfl):p:=h
theorem Q9 (h:p:=by simp;omega):p:=h
theorem R3 (h:p:=by go_simp):p:=h
theorem R4 (h:p:=by decide):p:=h
theorem R5 (h:p:=by omega):p:=h
theorem R6 (h:p:=by simp):p:=h
def B3 (n l g:Int):Bool:=decide (l<=n) && decide (n<=g)
theorem U7 (h1:l<=n) (h2:n<=g):B3 n l g=true:=by simp [B3,h1,h2]
theorem bA (h:¬(l<=n/\n<=g)):B3 n l g=false:=by
 simp only[B3,Bool.and_eq_false_iff,decide_eq_false_iff_not];omega
theorem C5 (n l g:Int) (w:World) :
  Calls prog 116 #[.int .i64 n,.int .i64 l,.int .i64 g] w fun e w'=>e=.returned (.bool (B3 n l g))/\w'=w:=by
 by_cases h1:l<=n
 ·by_cases h2:n<=g
  ·rw [U7 h1 h2]
   go_enter func116,ntmps116;go_wp2
   all_goals go_ret
   all_goals exact ⟨by simp,rfl⟩
  ·rw [bA (by omega)]
   go_enter func116,ntmps116;go_wp2
   all_goals go_ret
   all_goals exact ⟨by simp,rfl⟩
 ·rw [bA (by omega)]
  go_enter func116,ntmps116;go_wp2
  all_goals go_ret
  all_goals exact ⟨by simp,rfl⟩
theorem sM (a b:Option Addr) (n c m d:Nat) (p l x:Int) (w:World) :
  Calls prog 255 #[.agg #[.slice a n c],.agg #[.int .i64 p,.int .i64 l,.slice b m d],.int .i64 x] w fun e w'=>e=.returned (.bool true)/\Below w.heap.size w w':=by
 go_enter func255,ntmps255;go_wp2
 go_ret;exact⟨rfl,by repeat (first | exact Below.refl _ _ | refine Below.drew ?_ | refine Below.alloc ?_ (by simp) _)⟩
theorem wU (a b:Option Addr) (n c m d:Nat) (p l x:Int) (w:World) :
  Calls prog 257 #[.agg #[.slice a n c],.agg #[.int .i64 p,.int .i64 l,.slice b m d],.int .i64 x] w fun e w'=>e=.returned (.bool (x == 0))/\Below w.heap.size w w':=by
 go_enter func257,ntmps257;go_wp2
 go_ret;exact⟨rfl,by repeat (first | exact Below.refl _ _ | refine Below.drew ?_ | refine Below.alloc ?_ (by simp) _)⟩
theorem yJ (a b:Option Addr) (n c m d:Nat) (p l x:Int) (w:World) (h0:0<=l) (h8:l<=8) :
  Calls prog 259 #[.agg #[.slice a n c],.agg #[.int .i64 p,.int .i64 l,.slice b m d],.int .i64 x] w fun e w'=>e=.returned (.bool (B3 x 0 (l - 1)))/\Below w.heap.size w w':=by
 go_enter func259,ntmps259;go_wp2_with (go_at_call 116;refine (C5 _ _ _ _).mono ?_;rintro e w' ⟨rfl,rfl⟩)
 go_ret;exact⟨rfl,by repeat (first | exact Below.refl _ _ | refine Below.drew ?_ | refine Below.alloc ?_ (by simp) _)⟩
theorem jW (a b:Option Addr) (n c m d:Nat) (p l x:Int) (w:World) (hm:m<=1152921504606846976) :
  Calls prog 270 #[.agg #[.slice a n c],.agg #[.int .i64 p,.int .i64 l,.slice b m d],.int .i64 x] w fun e w'=>e=.returned (.bool (B3 x 0 (m - 1)))/\Below w.heap.size w w':=by
 go_enter func270,ntmps270;go_wp2_with (go_at_call 116;refine (C5 _ _ _ _).mono ?_;rintro e w' ⟨rfl,rfl⟩)
 go_ret;exact⟨rfl,by repeat (first | exact Below.refl _ _ | refine Below.drew ?_ | refine Below.alloc ?_ (by simp) _)⟩
theorem qE (a b:Option Addr) (n c m d:Nat) (p l x:Int) (w:World) (hm:n<=1152921504606846976) :
  Calls prog 273 #[.agg #[.slice a n c],.agg #[.int .i64 p,.int .i64 l,.slice b m d],.int .i64 x] w fun e w'=>e=.returned (.bool (B3 x 0 (n - 1)))/\Below w.heap.size w w':=by
 go_enter func273,ntmps273;go_wp2_with (go_at_call 116;refine (C5 _ _ _ _).mono ?_;rintro e w' ⟨rfl,rfl⟩)
 go_ret;exact⟨rfl,by repeat (first | exact Below.refl _ _ | refine Below.drew ?_ | refine Below.alloc ?_ (by simp) _)⟩
theorem mS (a b:Option Addr) (n c m d:Nat) (p l x:Int) (w:World) :
  Calls prog 276 #[.agg #[.slice a n c],.agg #[.int .i64 p,.int .i64 l,.slice b m d],.int .i64 x] w fun e w'=>e=.returned (.bool (B3 x 0 8))/\Below w.heap.size w w':=by
 go_enter func276,ntmps276;go_wp2_with (go_at_call 116;refine (C5 _ _ _ _).mono ?_;rintro e w' ⟨rfl,rfl⟩)
 go_ret;exact⟨rfl,by repeat (first | exact Below.refl _ _ | refine Below.drew ?_ | refine Below.alloc ?_ (by simp) _)⟩
theorem yI (a b:Option Addr) (n c m d:Nat) (p l x:Int) (w:World) :
  Calls prog 280 #[.agg #[.slice a n c],.agg #[.int .i64 p,.int .i64 l,.slice b m d],.int .i64 x] w fun e w'=>e=.returned (.bool (B3 x 0 7))/\Below w.heap.size w w':=by
 go_enter func280,ntmps280;go_wp2_with (go_at_call 116;refine (C5 _ _ _ _).mono ?_;rintro e w' ⟨rfl,rfl⟩)
 go_ret;exact⟨rfl,by repeat (first | exact Below.refl _ _ | refine Below.drew ?_ | refine Below.alloc ?_ (by simp) _)⟩
end
theorem xP (n g:Int) (w:World) :
  Calls prog 134 #[J n,J g] w fun e w'=>e=.returned (.bool (B3 n 0 (g - 1)))/\w'=w:=by
 by_cases h1:0<=n
 ·by_cases h2:n < g
  ·rw [U7 h1 R5]
   go_enter func134,ntmps134;go_wp2
   all_goals go_ret
   all_goals exact ⟨by simp,rfl⟩
  ·rw [bA R5]
   go_enter func134,ntmps134;go_wp2
   all_goals go_ret
   all_goals exact ⟨by simp,rfl⟩
 ·rw [bA R5]
  go_enter func134,ntmps134;go_wp2
  all_goals go_ret
  all_goals exact ⟨by simp,rfl⟩
def bF (k p l:Int) (n:Nat):Bool:=B3 n 1 60 && (B3 l 0 8 && (B3 p 0 l && (decide (0 < k) || p == 0)))
theorem a3N {k p l:Int} {n:Nat} {r:Bool} (h:((1<=n/\n<=60)/\(0<=l/\l<=8)/\(0<=p/\p<=l)/\(0 < k\/p=0))↔r=true):r=bF k p l n:=by
 rw[Bool.eq_iff_iff,<- h];simp only[bF,B3,Bool.and_eq_true,Bool.or_eq_true,decide_eq_true_eq,beq_iff_eq];omega
theorem rT (k p l:Int) (b:Option Addr) (m d:Nat) (w:World) (hm:m<=1152921504606846976) :
  Calls prog 96 #[J k,.agg #[J p,J l,.slice b m d]] w fun e w'=>e=.returned (.bool (bF k p l m))/\L0d w w':=by
 go_enter func96,ntmps96;go_wp2
 all_goals go_ret
 all_goals refine ⟨?_,P7⟩
 all_goals refine congrArg (fun r=>Ending.returned (Value.bool r)) (a3N ?_)
 all_goals simp
 all_goals omega
def F5 (nf:Nat) (l:Int) (nc:Nat) (op x:Int):Bool :=
 if op=0 then true
 else if op=2\/op=3 then B3 x 0 (l - 1)
 else if op=12\/op=13 then B3 x 0 (nc - 1)
 else if op=14 then B3 x 0 (nf - 1)
 else if op=16 then B3 x 0 8
 else if op=19\/op=20 then B3 x 0 7
 else B3 op 0 27 && x == 0
theorem a5R {a b:Bool} (h:a=b):Ending.returned (.bool a)=.returned (.bool b):=by rw [h]
theorem a1Q {a b:Int} (h:a=b):Ending.returned (J a)=.returned (J b):=by rw [h]
theorem a2M (a b:Option Addr) (n c m d:Nat) (p l op x:Int) (w:World) :
  Calls prog 97 #[.agg #[.slice a n c],.agg #[J p,J l,.slice b m d],.agg #[J op,J x]] w fun e w'=>e=.returned (.bool (F5 n l m op x))/\L0d w w':=by
 go_enter func97,ntmps97;go_wp2_with (go_at_call 134;refine (xP _ _ _).mono ?_;rintro e w' ⟨rfl,rfl⟩)
 all_goals go_ret
 all_goals refine ⟨?_,P7⟩
 all_goals refine a5R ?_
 all_goals go_light
 all_goals simp_all [F5]
def R7 (op:Int):Int:=if op=4\/op=6 then 2 else if op=3\/op=5\/op=12\/op=13\/op=15\/op=20\/op=22\/op=26\/op=27 then 0 else 1
theorem a0A (op:Int) (w:World) :
  Calls prog 176 #[J op] w fun e w'=>e=.returned (J (R7 op))/\w'=w:=by
 go_enter func176,ntmps176;go_wp2
 all_goals go_ret
 all_goals refine ⟨?_,rfl⟩
 all_goals refine a1Q ?_
 all_goals go_light
 all_goals simp_all [R7]
def U5 (op q:Int):Int :=
 if op=3\/op=4\/op=5\/op=13\/op=15\/op=17\/op=18\/op=19\/op=23\/op=24\/op=25\/op=26 then 1
 else if op=6\/op=7\/op=8\/op=9\/op=10\/op=11\/op=20\/op=21 then 2
 else if op=22 then 3 else if op=14 then q else 0
theorem a0z (a:Option Addr) (n c:Nat) (op x q:Int) (w:World) (h14:(op == 14)=false) :
  Calls prog 169 #[.agg #[.slice a n c],.agg #[J op,J x]] w fun e w'=>e=.returned (J (U5 op q))/\L0d w w':=by
 go_enter func169,ntmps169;go_wp2
 all_goals go_ret
 all_goals refine ⟨?_,P7⟩
 all_goals refine a1Q ?_
 all_goals go_light
 all_goals simp_all [U5]
theorem a3m (b o:Nat) (n c:Nat) (x:Nat) (q:Int) (w:World) (hb:b < w.heap.size) (hx:x < n) (hc:w.cell? ⟨b,o+x*3,none⟩=some (J q)) :
  Calls prog 169 #[.agg #[.slice (some ⟨b,o,none⟩) n c],.agg #[J 14,J (x:Int)]] w fun e w'=>e=.returned (J q)/\L0d w w':=by
 go_enter func169,ntmps169;go_wp2
 go_ret;exact⟨rfl,P7⟩
section
variable {B B' a c n:Nat} {H:Nat->Int} {S:Nat->Prop} {b:Int} {w w':World}
structure G2 where
 n:Nat
 pop:Nat->Int
 push:Nat->Int
 next:Nat->List Nat
def G2.behind (F:G2) (a:Nat) (h:Int):Int:=h - F.pop a+F.push a
def G2.Reach (F:G2) (pc:Nat) (h:Int):Prop :=
 ∀S:Nat->Int->Prop,S 0 0->(∀a b c,S a b->c∈F.next a->S c (F.behind a b))->S pc h
def G2.Fits (F:G2):Prop :=
 (∀a b,F.Reach a b->a < F.n/\F.pop a<=b/\F.behind a b<=10)/\∀a b b',F.Reach a b->F.Reach a b'->b=b'
theorem G2.reach_first (F:G2):F.Reach 0 0:=fun _ h _=>h
theorem G2.reach_next {F:G2} (h:F.Reach a b) (hc:c∈F.next a):F.Reach c (F.behind a b) :=
 fun S h0 hs=>hs a b c (h S h0 hs) hc
def G2.Shut (F:G2) (H:Nat->Int) (a:Nat):Prop :=
 F.pop a<=H a/\F.behind a (H a)<=10/\∀c,c∈F.next a->c < F.n/\H c=F.behind a (H a)
theorem G2.fits_of_shut {F:G2} (hn:0 < F.n) (h0:H 0=0) (hp:∀a,0<=F.push a) (hs:∀a,a < F.n->0<=H a->F.Shut H a):F.Fits:=by
 have xa:∀a b,F.Reach a b->a < F.n/\H a=b/\0<=b:=fun a b h=>by
  refine h (fun a b=>a < F.n/\H a=b/\0<=b) ⟨hn,h0,Int.le_refl 0⟩ ?_;rintro a b c ⟨ha,hb,hz⟩ hc;obtain⟨h1,_,h3⟩:=hs a ha R5;obtain⟨h4,h5⟩:=h3 c hc;have:=hp a;refine⟨h4,by rw [h5,hb],?_⟩;unfold G2.behind;omega
 refine⟨fun a b h=>?_,fun a b b' h h'=>?_⟩
 ·obtain ⟨ha,hb,hz⟩:=xa a b h
  obtain⟨h1,h2,_⟩:=hs a ha R5;rw[hb] at h1 h2;exact⟨ha,h1,h2⟩
 ·rw [<- (xa a b h).2.1,<- (xa a b' h').2.1]
theorem G2.not_fits_pop {F:G2} (h:F.Reach a b) (hb:b < F.pop a\/10 < F.behind a b):¬F.Fits:=fun hf=>by
 have:=hf.1 a b h;omega
theorem G2.not_fits_past {F:G2} (h:F.Reach a b) (hc:c∈F.next a) (hn:F.n<=c):¬F.Fits:=fun hf=>by
 have:=(hf.1 c _ (G2.reach_next h hc)).1;omega
theorem G2.not_fits_two {F:G2} {h':Int} (h:F.Reach a b) (hc:c∈F.next a) (h2:F.Reach c h') (hne:h'≠F.behind a b):¬F.Fits:=fun hf =>
 hne (hf.2 c _ _ h2 (G2.reach_next h hc))
def left (n:Nat) (H:Nat->Int):Nat:=((List.range n).filter fun i=>decide (H i < 0)).length
theorem kK {v:Int} (hc:c < n) (hH:H c < 0) (hv:0<=v):left n (fun i=>if i=c then v else H i)+1=left n H:=by
 induction n with
 | zero=>omega
 | succ n ih =>
  simp only[left];rw[List.range_succ,List.filter_append,List.filter_append,List.length_append,List.length_append];by_cases e:c=n
  ·subst e
   have e1:(List.range c).filter (fun i=>decide ((if i=c then v else H i) < 0))=(List.range c).filter (fun i=>decide (H i < 0)):=by
    refine List.filter_congr fun i hi=>?_
    have:i < c:=List.mem_range.1 hi;rw[if_neg R5]
   rw[e1];simp[hH];omega
  ·have hi:=ih R5
   simp only[left] at hi;have e2:((if n=c then v else H n) < 0)=(H n < 0):=by rw [if_neg R5]
   simp only[List.filter_cons,List.filter_nil,e2];omega
structure FnR where
 p:Int
 l:Int
 a:Option Addr
 n:Nat
 c:Nat
 b:Nat
 o:Nat
 op:Nat->Int
 ar:Nat->Int
structure PgR where
 a:Option Addr
 n:Nat
 c:Nat
 b:Nat
 o:Nat
 f:Nat->FnR
def N2 (B:Nat) (w:World) (f:FnR):Prop :=
 f.n<=1152921504606846976/\(0 < f.n->f.a=some ⟨f.b,f.o,none⟩/\f.b < B/\∀j,j < f.n ->
  w.cell? ⟨f.b,f.o+j*2,none⟩=some (J (f.op j))/\w.cell? ⟨f.b,f.o+j*2+1,none⟩=some (J (f.ar j)))
def I9 (B:Nat) (w:World) (g:PgR):Prop :=
 g.n<=1152921504606846976/\(0 < g.n->g.a=some ⟨g.b,g.o,none⟩/\g.b < B/\∀i,i < g.n ->
  w.cell? ⟨g.b,g.o+i*3,none⟩=some (J (g.f i).p)/\w.cell? ⟨g.b,g.o+i*3+1,none⟩=some (J (g.f i).l) /\
  w.cell? ⟨g.b,g.o+i*3+2,none⟩=some (.slice (g.f i).a (g.f i).n (g.f i).c))/\∀i,i < g.n->N2 B w (g.f i)
theorem N2.below {f:FnR} (h:N2 B w f) (hb:Below B w w'):N2 B w' f :=
 ⟨h.1,fun hn=>by
  obtain⟨h1,h2,h3⟩:=h.2 hn;refine⟨h1,h2,fun j hj=>?_⟩;rw[hb.cell (p:=⟨f.b,f.o+j*2,none⟩) h2,hb.cell (p:=⟨f.b,f.o+j*2+1,none⟩) h2];exact h3 j hj⟩
theorem N2.mono {f:FnR} (h:N2 B w f) (hb:B<=B'):N2 B' w f :=
 ⟨h.1,fun hn=>by obtain ⟨h1,h2,h3⟩:=h.2 hn;exact ⟨h1,by omega,h3⟩⟩
theorem I9.below {g:PgR} (h:I9 B w g) (hb:Below B w w'):I9 B w' g :=
 ⟨h.1,fun hn=>by
  obtain⟨h1,h2,h3⟩:=h.2.1 hn;refine⟨h1,h2,fun i hi=>?_⟩;rw[hb.cell (p:=⟨g.b,g.o+i*3,none⟩) h2,hb.cell (p:=⟨g.b,g.o+i*3+1,none⟩) h2,hb.cell (p:=⟨g.b,g.o+i*3+2,none⟩) h2];exact h3 i hi,fun i hi=>(h.2.2 i hi).below hb⟩
theorem I9.mono {g:PgR} (h:I9 B w g) (hb:B<=B'):I9 B' w g :=
 ⟨h.1,fun hn=>by obtain ⟨h1,h2,h3⟩:=h.2.1 hn;exact ⟨h1,by omega,h3⟩,fun i hi=>(h.2.2 i hi).mono hb⟩
structure But (S:Nat->Prop) (w w':World):Prop where
 os:w'.os=w.os
 tape:w'.tape=w.tape
 output:w'.output=w.output
 size:w.heap.size<=w'.heap.size
 block:∀k,k < w.heap.size->¬S k->w'.heap[k]?=w.heap[k]?
theorem But.refl (S:Nat->Prop) (w:World):But S w w:=⟨rfl,rfl,rfl,L1c _,fun _ _ _=>rfl⟩
theorem But.trans {a b c:World} (h:But S a b) (k:But S b c):But S a c :=
 ⟨k.os.trans h.os,k.tape.trans h.tape,k.output.trans h.output,L5a h.size k.size,fun i hi hs=>(k.block i (L0a hi h.size) hs).trans (h.block i hi hs)⟩
theorem But.of_below (h:L0d w w'):But S w w':=⟨h.os,h.tape,h.output,h.size,fun k hk _=>h.block k hk⟩
theorem But.alloc {a:World} (h:But S a w) (o:Obj):But S a (w.alloc o) :=
 h.trans ⟨rfl,rfl,rfl,by simp,fun k hk _=>Below.heap_alloc _ _ _ hk⟩
theorem But.setCell {a:World} (h:But S a w) {p:Addr} (hp:S p.block\/a.heap.size<=p.block) (u:Value):But S a (w.setCell p u) :=
 ⟨h.os,h.tape,h.output,by have:=h.size;simpa [World.setCell] using this,fun k hk hs=>(Below.heap_setCell _ _ _ _ (by rcases hp with hp | hp;exact fun e=>hs (e▸hp);omega)).trans (h.block k hk hs)⟩
theorem But.cell (h:But S w w') {p:Addr} (hp:p.block < w.heap.size) (hs:¬S p.block):w'.cell? p=w.cell? p:=L0b (w:=w) (h.block p.block hp hs)
theorem But.below (h:But S w w') {B:Nat} (hB:B<=w.heap.size) (hs:∀k,k < B->¬S k):Below B w w' :=
 ⟨h.os,h.tape,h.output,h.size,fun k hk=>h.block k (L0a hk hB) (hs k hk)⟩
def uW (n:Nat) (ok:Nat->Bool) (k:Nat):Prop:=k < n/\ok k=false/\∀j,j < k->ok j=true
theorem uW.unique {ok:Nat->Bool} {k k':Nat} (h:uW n ok k) (h':uW n ok k'):k=k':=by
 rcases Nat.lt_trichotomy k k' with hl | hl | hl
 ·have:=h'.2.2 k hl;rw [h.2.1] at this;cases this
 ·exact hl
 ·have:=h.2.2 k' hl;rw [h'.2.1] at this;cases this
def aN (g:PgR) (at_:Int) (ok:Bool):Prop :=
 (ok=true/\at_=0/\1<=g.n/\g.n<=8/\∀i,i < g.n->bF i (g.f i).p (g.f i).l (g.f i).n=true) \/
 (ok=false/\at_=0/\¬(1<=g.n/\g.n<=8)) \/
 (ok=false/\1<=g.n/\g.n<=8/\∃k:Nat,at_=k/\uW g.n (fun i=>bF i (g.f i).p (g.f i).l (g.f i).n) k)
end
def D9 (pc:Nat) (op x:Int):List Nat :=
 if op=15\/op=27 then [] else if op=12 then [x.toNat] else if op=13 then [x.toNat,pc+1] else [pc+1]
def yF (B:Nat) (w:World) (v:Value) (l:List Nat):Prop :=
 (v=.slice none 0 0/\l=[])\/∃b,v=.slice (zA b) l.length l.length/\B<=b/\b < w.heap.size/\∀i,i < l.length->w.cell? ⟨b,i,none⟩=some (J (l.getD i 0:Nat))
theorem oT (w:World) (o:Obj) (y:Int) (c:Nat) (h:y=c) :
  yF w.heap.size ((w.alloc o).alloc (.cells #[J y] 3)) (.slice (some ⟨w.heap.size+1,0,none⟩) 1 1) [c]:=by
 refine L4b ⟨w.heap.size+1,rfl,by omega,by simp,fun i hi=>?_⟩;obtain rfl:i=0:=by simpa using hi
 subst h;go_simp
theorem a0f (w:World) (o:Obj) (y z:Int) (c d:Nat) (h:y=c) (h':z=d) :
  yF w.heap.size ((w.alloc o).alloc (.cells #[J y,J z] 3)) (.slice (some ⟨w.heap.size+1,0,none⟩) 2 2) [c,d]:=by
 refine L4b ⟨w.heap.size+1,rfl,by omega,by simp,fun i hi=>?_⟩;subst h h'
 match i,hi with
 | 0,_=>go_simp
 | 1,_=>go_simp
theorem a5v (pc:Nat) (op x:Int) (w:World) (hpc:pc<=1000) (hx:Hid (op=12\/op=13->0<=x)) :
  Calls prog 177 #[J (pc:Int),.agg #[J op,J x]] w fun e w'=>∃v,e=.returned v/\yF w.heap.size w' v (D9 pc op x)/\L0d w w':=by
 go_enter func177,ntmps177;go_wp2
 all_goals go_ret
 all_goals refine ⟨_,rfl,?_,P4⟩
 all_goals go_light
 ·have:op=15:=by simp_all
  rw[show D9 pc op x=[] by simp [D9,this]];exact L4a ⟨rfl,rfl⟩
 ·have:op=27:=by simp_all
  rw[show D9 pc op x=[] by simp [D9,this]];exact L4a ⟨rfl,rfl⟩
 ·have xa:op=12:=by simp_all
  have:=hx.out (L4a xa);rw[show D9 pc op x=[x.toNat] by simp [D9,xa]];exact oT w _ _ _ R5
 ·have xb:op=13:=by simp_all
  have:=hx.out (L4b xb);rw[show D9 pc op x=[x.toNat,pc+1] by simp [D9,xb]];exact a0f w _ _ _ _ _ R5 R5
 ·rw [show D9 pc op x=[pc+1] by simp_all [D9]];exact oT w _ _ _ R5
section
variable {F:G2} {H H':Nat->Int} {Q Q':Prop} {fr:Bool} {l op x:Int} {nc nf:Nat}
def B6 (g:PgR) (f:FnR):G2 :=
 { n:=f.n,pop:=fun a=>U5 (f.op a) (g.f (f.ar a).toNat).p,push:=fun a=>R7 (f.op a),next:=fun a=>D9 a (f.op a) (f.ar a) }
def yC (g:PgR) (f:FnR):Prop :=
 1<=f.n/\f.n<=60/\(∀i,i < g.n->0<=(g.f i).p/\(g.f i).p<=8)/\∀j,j < f.n->F5 g.n f.l f.n (f.op j) (f.ar j)=true
theorem E5 {n g:Int} : B3 n l g=true↔l<=n/\n<=g:=by simp [B3]
theorem gC (h:F5 nf l nc op x=true):0<=op/\op<=27:=by
 unfold F5 at h
 repeat' split at h
 all_goals first | omega | (rw [Bool.and_eq_true,E5] at h;omega)
theorem Z0 (h:F5 nf l nc op x=true) (ho:op=12\/op=13):0<=x/\x < nc:=by
 unfold F5 at h;rw[if_neg R5,if_neg R5,if_pos ho,E5] at h;omega
theorem S8 (h:F5 nf l nc op x=true) (ho:op=14):0<=x/\x < nf:=by
 unfold F5 at h;rw[if_neg R5,if_neg R5,if_neg R5,if_pos ho,E5] at h;omega
theorem bP (op:Int):0<=R7 op/\R7 op<=2:=by unfold R7;split <;> (try split) <;> omega
theorem a1N (op q:Int) (h:op=14->0<=q/\q<=8):0<=U5 op q/\U5 op q<=8:=by
 unfold U5;split
 ·omega
 ·split
  ·omega
  ·split
   ·omega
   ·split
    ·exact h ‹_›
    ·omega
theorem yC.pop_bd {g:PgR} {f:FnR} (h:yC g f) {a:Nat} (ha:a < f.n):0<=(B6 g f).pop a/\(B6 g f).pop a<=8:=by
 refine a1N _ _ fun ho=>?_
 have:=S8 (h.2.2.2 a ha) ho;exact h.2.2.1 _ R5
theorem a5I (B:Nat) (g:PgR) (op x:Int) (w:World) (hB:B<=w.heap.size) (hg:I9 B w g) (hx:op=14->0<=x/\x < g.n) :
  Calls Tryz.prog 169 #[.agg #[.slice g.a g.n g.c],.agg #[J op,J x]] w fun e w'=>e=.returned (J (U5 op (g.f x.toNat).p))/\L0d w w':=by
 by_cases h:op=14
 ·obtain ⟨h0,h1⟩:=hx h
  obtain⟨k,rfl⟩:=L5c h0;obtain⟨ha,hb,hc⟩:=hg.2.1 R5;subst h;rw[ha,Int.toNat_natCast,show U5 14 (g.f k).p=(g.f k).p by simp [U5]];exact a3m g.b g.o g.n g.c k _ w R5 R5 (hc k R5).1
 ·exact a0z _ _ _ _ _ _ w (L2c.2 h)
def Sp (F:G2) (H H':Nat->Int) (Q:Prop) (fr:Bool):Prop :=
 (∀a,a < F.n -> -1<=H' a/\H' a<=10/\(0<=H' a->F.Reach a (H' a)))/\(∀a,0<=H a->H' a=H a) /\
  ((fr=false/\(∀a,H' a=H a)/\Q)\/(fr=true/\left F.n H' < left F.n H))
theorem Sp.imp (h:Sp F H H' Q fr) (hq:(∀a,H' a=H a)->Q->Q'):Sp F H H' Q' fr :=
 ⟨h.1,h.2.1,h.2.2.imp (fun ⟨a,b,c⟩=>⟨a,b,hq b c⟩) id⟩
theorem Sp.set {c:Nat} {v:Int} (h:Sp F H H' Q fr) (hc:c < F.n) (hn:H' c < 0) (hv:0<=v) (hv':v<=10) (hr:F.Reach c v) :
  Sp F H (fun i=>if i=c then v else H' i) Q' true:=by
 refine⟨fun a ha=>?_,fun a ha=>?_,L4b ⟨rfl,?_⟩⟩
 ·by_cases e:a=c
  ·subst e;simp only [if_pos];exact ⟨by omega,hv',fun _=>hr⟩
  ·simp only [if_neg e];exact h.1 a ha
 ·have:=h.2.1 a ha
  have xa:a≠c:=by intro e;subst e;omega
  simp only[if_neg xa];exact this
 ·have h1:=kK hc hn hv
  have h2:left F.n H'<=left F.n H:=by
   rcases h.2.2 with ⟨_,he,_⟩ | ⟨_,hl⟩
   ·rw [show H'=H from funext he];exact L1c _
   ·omega
  omega
def rC (F:G2) (H:Nat->Int) (H':Nat->Int) (fr ok:Bool):Prop :=
 (ok=false/\¬F.Fits)\/(ok=true/\Sp F H H' (∀a,a < F.n->0<=H a->F.Shut H a) fr)
theorem But.drewN {S:Nat->Prop} {a w:World} (h:But S a w) (n:Nat):But S a (w.drewN n):=⟨h.os,h.tape,h.output,h.size,h.block⟩
end
theorem tM (a:Option Addr) (n c:Nat) (k:Nat) (x q:Int) (w:World) (hz:0 < w.heap.size) (hk:k < 28) (hq:(q != -1)=true) (ht:w.cell? ⟨0,k*5,none⟩=some (J q)) :
  Calls prog 180 #[.agg #[.slice a n c],.agg #[J (k:Int),J x]] w fun e w'=>e=.returned (J q)/\L0d w w':=by
 go_enter func180,ntmps180;go_wp2
 go_ret;exact⟨rfl,P9⟩
theorem xG (b o:Nat) (n c:Nat) (x:Nat) (q:Int) (w:World) (hz:0 < w.heap.size) (hb:b < w.heap.size) (hx:x < n) (ht:w.cell? ⟨0,70,none⟩=some (J (-1)))
  (hc:w.cell? ⟨b,o+x*3,none⟩=some (J q)) :
  Calls prog 180 #[.agg #[.slice (some ⟨b,o,none⟩) n c],.agg #[J 14,J (x:Int)]] w fun e w'=>e=.returned (J q)/\L0d w w':=by
 go_enter func180,ntmps180;go_wp2
 go_ret;exact⟨rfl,P9⟩
def jJ (p l:Int) (n:Nat):Bool:=B3 n 1 60 && (B3 l 0 8 && B3 p 0 l)
theorem cC (p l:Int) (b:Option Addr) (m d:Nat) (w:World) :
  Calls prog 173 #[.agg #[J p,J l,.slice b m d]] w fun e w'=>e=.returned (.bool (jJ p l m))/\L0d w w':=by
 cases h1:B3 m 1 60
 ·go_enter func173,ntmps173
  go_wp2_with (go_at_call 116;refine (C5 _ _ _ _).mono ?_;rintro e w' ⟨rfl,rfl⟩)
  go_ret;exact⟨by simp [jJ,h1],P9⟩
 ·cases h2:B3 l 0 8
  ·go_enter func173,ntmps173
   go_wp2_with (go_at_call 116;refine (C5 _ _ _ _).mono ?_;rintro e w' ⟨rfl,rfl⟩)
   go_ret;exact⟨by simp [jJ,h1,h2],P9⟩
  ·go_enter func173,ntmps173
   go_wp2_with (go_at_call 116;refine (C5 _ _ _ _).mono ?_;rintro e w' ⟨rfl,rfl⟩)
   go_ret;exact⟨by simp [jJ,h1,h2],P9⟩
theorem cB {P:Program} {f:FuncId} {args:Array Value} {w:World} {d:Nat} {os:Array Obj} {v:Value}
  (h:Calls P f args (grow (redrawn w d) os) fun e w'=>e=.returned v/\w'=grow (redrawn w d) os):Calls P f args (grow (redrawn w d) os) fun e w''=>e=.returned v/\∃p:Regrown,w''=grow (redrawn w p.d) p.os :=
 h.mono fun _ _ ⟨he,hb⟩=>⟨he,⟨⟨d,os⟩,hb⟩⟩
theorem a8O (a b:Option Addr) (n c m d:Nat) (p l x:Int) (k:Nat) (w:World):(∀(dd:Nat) (os:Array Obj),(grow (redrawn (((w.alloc (Obj.cells #[.slice a n c] 41)).alloc (Obj.cells #[J p,J l,.slice b m d] 163)).alloc (Obj.cells #[J (k:Int),J x] 165)) dd) os).cell? ⟨w.heap.size,0,none⟩=some (.slice a n c))/\(∀(dd:Nat) (os:Array Obj),(grow (redrawn (((w.alloc (Obj.cells #[.slice a n c] 41)).alloc (Obj.cells #[J p,J l,.slice b m d] 163)).alloc (Obj.cells #[J (k:Int),J x] 165)) dd) os).cell? ⟨w.heap.size+1,0,none⟩=some (J p))/\(∀(dd:Nat) (os:Array Obj),(grow (redrawn (((w.alloc (Obj.cells #[.slice a n c] 41)).alloc (Obj.cells #[J p,J l,.slice b m d] 163)).alloc (Obj.cells #[J (k:Int),J x] 165)) dd) os).cell? ⟨w.heap.size+1,1,none⟩=some (J l))/\(∀(dd:Nat) (os:Array Obj),(grow (redrawn (((w.alloc (Obj.cells #[.slice a n c] 41)).alloc (Obj.cells #[J p,J l,.slice b m d] 163)).alloc (Obj.cells #[J (k:Int),J x] 165)) dd) os).cell? ⟨w.heap.size+1,2,none⟩=some (.slice b m d))/\(∀(dd:Nat) (os:Array Obj),(grow (redrawn (((w.alloc (Obj.cells #[.slice a n c] 41)).alloc (Obj.cells #[J p,J l,.slice b m d] 163)).alloc (Obj.cells #[J (k:Int),J x] 165)) dd) os).cell? ⟨w.heap.size+1+1,0,none⟩=some (J k))/\(∀(dd:Nat) (os:Array Obj),(grow (redrawn (((w.alloc (Obj.cells #[.slice a n c] 41)).alloc (Obj.cells #[J p,J l,.slice b m d] 163)).alloc (Obj.cells #[J (k:Int),J x] 165)) dd) os).cell? ⟨w.heap.size+1+1,1,none⟩=some (J x)) :=
 ⟨cell_regrown R3,cell_regrown R3,cell_regrown R3,cell_regrown R3,cell_regrown R3,cell_regrown R3⟩
theorem N4 (a b:Option Addr) (n c m d:Nat) (p l x:Int) (k:Nat) (w:World) (hz:0 < w.heap.size) (hk:k < 28) (F:Nat) (B:Bool) (hF:F=255\/F=257\/F=259\/F=270\/F=273\/F=276\/F=280) (ht:w.cell? ⟨0,k*5+3,none⟩=some (.func (.func F) #[] #[])) (hc:∀U,Calls prog F #[.agg #[.slice a n c],.agg #[J p,J l,.slice b m d],J x] U fun e w'=>e=.returned (.bool B)/\L0d U w') :
  Calls prog 174 #[.agg #[.slice a n c],.agg #[J p,J l,.slice b m d],.agg #[J (k:Int),J x]] w fun e w'=>e=.returned (.bool B)/\L0d w w':=by
 have xb:B3 k 0 27=true:=U7 R5 R5;go_enter func174,ntmps174;go_wp2
 have hB:L0d w (((w.alloc (Obj.cells #[.slice a n c] 41)).alloc (Obj.cells #[J p,J l,.slice b m d] 163)).alloc (Obj.cells #[J (k:Int),J x] 165)):=by repeat (first | exact L3b _ _ | refine L3a ?_ Q2 _)
 obtain⟨k0,k1,k2,k3,k4,k5⟩:=a8O a b n c m d p l x k w;have k6:=cell_regrown (w:=(((w.alloc (Obj.cells #[.slice a n c] 41)).alloc (Obj.cells #[J p,J l,.slice b m d] 163)).alloc (Obj.cells #[J (k:Int),J x] 165))) (a:=⟨0,k*5+3,none⟩) (v:=.func (.func F) #[] #[]) R3;generalize (((w.alloc (Obj.cells #[.slice a n c] 41)).alloc (Obj.cells #[J p,J l,.slice b m d] 163)).alloc (Obj.cells #[J (k:Int),J x] 165))=W at *
 refine wp_region_quiet_below Q8 Q8 ?_;rcases hF with rfl | rfl | rfl | rfl | rfl | rfl | rfl
 all_goals
  repeat (first
   | go_big_quiet_step (first | (go_at_call 116;exact cB (C5 _ _ _ _)) | ((first | go_at_call 255 | go_at_call 257 | go_at_call 259 | go_at_call 270 | go_at_call 273 | go_at_call 276 | go_at_call 280);exact Calls.regrown_of (hc _)))
   | quiet_step (first | (go_at_call 116;exact cB (C5 _ _ _ _)) | ((first | go_at_call 255 | go_at_call 257 | go_at_call 259 | go_at_call 270 | go_at_call 273 | go_at_call 276 | go_at_call 280);exact Calls.regrown_of (hc _))))
  refine wpQuiet_nil ?_;intro _ hw';obtain⟨⟨dq,xa⟩,hw''⟩:=hw';subst hw'';go_wp2
  go_ret;exact⟨rfl,hB.trans ((below_regrown W dq xa).mono hB.size)⟩
theorem sW (a b:Option Addr) (n c m d:Nat) (p l x k:Int) (w:World) (hk:B3 k 0 27=false) :
  Calls prog 174 #[.agg #[.slice a n c],.agg #[J p,J l,.slice b m d],.agg #[J k,J x]] w fun e w'=>e=.returned (.bool false)/\L0d w w':=by
 go_enter func174,ntmps174;go_wp2
 have hB:L0d w (((w.alloc (Obj.cells #[.slice a n c] 41)).alloc (Obj.cells #[J p,J l,.slice b m d] 163)).alloc (Obj.cells #[J k,J x] 165)):=by repeat (first | exact L3b _ _ | refine L3a ?_ Q2 _)
 have k4:=cell_regrown (w:=(((w.alloc (Obj.cells #[.slice a n c] 41)).alloc (Obj.cells #[J p,J l,.slice b m d] 163)).alloc (Obj.cells #[J k,J x] 165))) (a:=⟨w.heap.size+1+1,0,none⟩) (v:=J k) R3;generalize (((w.alloc (Obj.cells #[.slice a n c] 41)).alloc (Obj.cells #[J p,J l,.slice b m d] 163)).alloc (Obj.cells #[J k,J x] 165))=W at *
 refine wp_region_quiet_below Q8 Q8 ?_
 repeat (first
  | go_big_quiet_step ((go_at_call 116;exact cB (C5 _ _ _ _)))
  | quiet_step ((go_at_call 116;exact cB (C5 _ _ _ _))))
 refine wpQuiet_nil ?_;intro _ hw';obtain⟨⟨dq,xa⟩,hw''⟩:=hw';subst hw'';go_wp2
 go_ret;exact⟨rfl,hB.trans ((below_regrown W dq xa).mono hB.size)⟩
theorem Z5 {W w1:World} (hb:L0d W w1):(∀b o,b < W.heap.size->w1.cell? ⟨b,o,none⟩=W.cell? ⟨b,o,none⟩)/\(∀b o,b < W.heap.size->w1.frozen? ⟨b,o,none⟩=W.frozen? ⟨b,o,none⟩) :=
 ⟨fun b o h=>hb.cell (p:=⟨b,o,none⟩) h,fun b o h=>hb.frozen (p:=⟨b,o,none⟩) h⟩
theorem D7 {B:Nat} {w W w2:World} (h2:L0d W w2) (h1:Below B w W) (hB:B<=W.heap.size):Below B w w2:=h1.trans (h2.mono hB)
theorem xR (k:Nat) (p l:Int) (n:Nat):bF k p l n=(jJ p l n && !(((k:Int) == 0) && p != 0)):=by
 rw[Bool.eq_iff_iff];simp only[bF,jJ,B3,Bool.and_eq_true,Bool.or_eq_true,decide_eq_true_eq,beq_iff_eq,Bool.not_eq_true',Bool.and_eq_false_iff,beq_eq_false_iff_ne,bne_eq_false_iff_eq];omega
theorem nW (g:PgR) (w:World) (hg:I9 w.heap.size w g) :
  Calls prog 131 #[.agg #[.slice g.a g.n g.c]] w fun e w'=>∃(at_:Int) (ok:Bool),e=.returned (.tuple #[J at_,.bool ok])/\aN g at_ ok/\L0d w w':=by
 have hn:=hg.1;by_cases h8:1<=g.n/\g.n<=8
 ·have xm:B3 g.n 1 8=true:=U7 R5 R5
  obtain⟨xg,xh⟩:=h8;obtain⟨ha,hb,hc⟩:=hg.2.1 R5;have HC:Hid (∀i,i < g.n->w.cell? ⟨g.b,g.o+i*3,none⟩=some (J (g.f i).p)/\w.cell? ⟨g.b,g.o+i*3+1,none⟩=some (J (g.f i).l) /\
   w.cell? ⟨g.b,g.o+i*3+2,none⟩=some (.slice (g.f i).a (g.f i).n (g.f i).c)):=hc
  clear hc;rw[ha];go_enter func131,ntmps131;go_wp2_with (go_at_call 116;refine (C5 _ _ _ _).mono ?_;rintro e w' ⟨rfl,rfl⟩)
  go_loopw [14] (fun i wr=>∃k:Nat,k<=g.n/\i=J k/\(∀j,j < k->bF j (g.f j).p (g.f j).l (g.f j).n=true)/\L0d w wr) (fun i _=>g.n - (intOf i).toNat)
  case atStart=>exact ⟨0,L4c _,rfl,fun j hj=>by omega,P6⟩
  case round =>
   obtain⟨k,hk,rfl,xc,xa⟩:=hrel;have xd:=(show Hid _ from xc);clear xc;by_cases hlt:k < g.n
   ·obtain ⟨c0,c1,c2⟩:=HC.out k hlt
    rw[<- xa.cell (p:=⟨g.b,_,none⟩) hb] at c0 c1 c2;have xl:=xa.size;have xn:g.b < wr.heap.size:=L0a hb xl;have xi:=xR k (g.f k).p (g.f k).l (g.f k).n;have HD:=(show Hid _ from xi);clear xi
    cases hs:jJ (g.f k).p (g.f k).l (g.f k).n
    ·go_wp2_with (go_at_call 173;refine (cC _ _ _ _ _ _).mono ?_;rintro e w2 ⟨rfl,xb⟩;obtain ⟨xf,xe⟩:=Z5 xb)
     go_ret2;exact⟨k,false,rfl,L4b (L4b ⟨rfl,xg,xh,k,rfl,hlt,by simp only;rw [HD.out,hs];rfl,xd.out⟩),D7 xb (by repeat (first | exact xa | refine L3c ?_ | refine Below.setCell ?_ Q1 _ | refine L3a ?_ Q1 _)) Q1⟩
    ·by_cases hk0:k=0
     ·have xj:((k:Int) == 0)=true:=beq_iff_eq.2 R5
      have HK:Hid (k=0):=hk0;clear hk0
      cases hp:(g.f k).p != 0
      ·go_wp2_with (go_at_call 173;refine (cC _ _ _ _ _ _).mono ?_;rintro e w2 ⟨rfl,xb⟩;obtain ⟨xf,xe⟩:=Z5 xb)
       go_roundw
       case rel=>exact ⟨k+1,by omega,by go_num,fun j hj=>(by rw [show j=k from (by have:=HK.out;omega),HD.out,hs,hp,xj];rfl),D7 xb (by repeat (first | exact xa | refine L3c ?_ | refine Below.setCell ?_ Q1 _ | refine L3a ?_ Q1 _)) Q1⟩
       case measure=>simp [intOf];omega
      ·go_wp2_with (go_at_call 173;refine (cC _ _ _ _ _ _).mono ?_;rintro e w2 ⟨rfl,xb⟩;obtain ⟨xf,xe⟩:=Z5 xb)
       go_ret2;exact⟨k,false,rfl,L4b (L4b ⟨rfl,xg,xh,k,rfl,hlt,by simp only;rw [HD.out,hs,hp,xj];rfl,xd.out⟩),D7 xb (by repeat (first | exact xa | refine L3c ?_ | refine Below.setCell ?_ Q1 _ | refine L3a ?_ Q1 _)) Q1⟩
     ·have xk:((k:Int) == 0)=false:=L2c.2 R5
      go_wp2_with (go_at_call 173;refine (cC _ _ _ _ _ _).mono ?_;rintro e w2 ⟨rfl,xb⟩;obtain ⟨xf,xe⟩:=Z5 xb)
      go_roundw
      case rel=>exact ⟨k+1,by omega,by go_num,fun j hj=>by
       by_cases e:j=k
       ·subst e;rw [HD.out,hs,xk];rfl
       ·exact xd.out j R5,D7 xb (by repeat (first | exact xa | refine L3c ?_ | refine Below.setCell ?_ Q1 _ | refine L3a ?_ Q1 _)) Q1⟩
      case measure=>simp [intOf];omega
   ·go_wp2
    go_ret2;exact⟨0,true,rfl,L4a ⟨rfl,rfl,xg,xh,fun i hi=>xd.out i R5⟩,xa⟩
 ·have xm:B3 g.n 1 8=false:=bA R5
  go_enter func131,ntmps131;go_wp2_with (go_at_call 116;refine (C5 _ _ _ _).mono ?_;rintro e w' ⟨rfl,rfl⟩)
  go_ret2;exact⟨0,false,rfl,L4b (L4a ⟨rfl,rfl,h8⟩),P6⟩
end Go.Proofs.YtbkmgoffiigdbaaGreatDoor
