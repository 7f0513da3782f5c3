import Derived.Test.YtbkmgoffiigdbaaGreatDoorProg
import Derived.WalkKit
import Derived.WalkSpells
import Derived.Deep.Light
import Derived.Deep.AppendLies
import Derived.Deep.RegionHeldLaw
import Derived.Deep.OwnRows
import Derived.Deep.QuietTactic
import Derived.BigQuiet
import Derived.Deep.LoopGhost
import Derived.Lib.QuietBelow
namespace Go.Proofs.YtbkmgoffiigdbaaGreatDoor
open Go.RowKit Go.Sort Go.Proofs.Tryz
set_option maxHeartbeats 4000000
set_option maxRecDepth 100000
section
variable {g l n:Int} {p:Prop}
abbrev L0d (a b:World):=Below a.heap.size a b
theorem L0a {n m k:Nat} (h:n < m) (h':m<=k):n < k:=Nat.lt_of_lt_of_le h h'
theorem L0b {w w':World} {a:Addr} (h:w'.heap[a.block]?=w.heap[a.block]?):w'.cell? a=w.cell? a:=World.cell?_of_block h
theorem L0c {w w':World} {a:Addr} (h:w'.heap[a.block]?=w.heap[a.block]?):w'.frozen? a=w.frozen? a:=World.frozen?_of_block h
theorem L1a {α:Type _} {l:List α} {i:Nat} {a:α}:l[i]?=some a↔∃h:i < l.length,l[i]=a:=List.getElem?_eq_some_iff
theorem L1b {α:Type _} {l:List α} {i:Nat} (h:i < l.length):l[i]?=some l[i]:=List.getElem?_eq_getElem h
theorem L1c (n:Nat):n<=n:=Nat.le_refl n
theorem L2a {α:Type _} {l:List α} {i:Nat} {a:α} (h:l[i]?=some a):a∈l:=List.mem_of_getElem? h
theorem L2b {α:Type _} {l:Array α} {i:Nat} {a:α}:l[i]?=some a↔∃h:i < l.size,l[i]=a:=Array.getElem?_eq_some_iff
theorem L2c {a b:Int}:(a == b)=false↔a≠b:=beq_eq_false_iff_ne
theorem L3a {B:Nat} {a w:World} (h:Below B a w) (k:B<=w.heap.size) (o:Obj):Below B a (w.alloc o):=Below.alloc h k o
theorem L3b (B:Nat) (w:World):Below B w w:=Below.refl B w
theorem L3c {B:Nat} {a w:World} (h:Below B a w):Below B a w.drew:=Below.drew h
theorem L4a {a b:Prop} (h:a):a\/b:=Or.inl h
theorem L4b {a b:Prop} (h:b):a\/b:=Or.inr h
theorem L4c (n:Nat):0<=n:=Nat.zero_le n
theorem L5a {n m k:Nat} (h:n<=m) (h':m<=k):n<=k:=Nat.le_trans h h'
theorem L5b {α:Type _} {a b:α} (h:some a=some b):a=b:=Option.some.inj h
theorem L5c {a:Int} (h:0<=a):∃n:Nat,a=n:=Int.eq_ofNat_of_zero_le h
theorem P4 (h:p:=by repeat (first | exact Below.refl _ _ | refine Below.drew ?_ | refine Below.setCell ?_ (by first | omega | (simp;done) | (simp;omega)) _ | refine Below.alloc ?_ (by first | omega | (simp;done) | (simp;omega)) _)):p:=h
theorem P5 (h:p:=by repeat (first | exact Below.refl _ _ | refine Below.drew ?_ | refine Below.drewQ ?_ _ | refine Below.alloc ?_ (by first | (simp;done) | (simp;omega)) _)):p:=h
theorem P6 (h:p:=by repeat (first | exact Below.refl _ _ | refine Below.drew ?_ | refine Below.alloc ?_ (by first | omega | (simp;done) | (simp;omega)) _)):p:=h
theorem P7 (h:p:=by repeat (first | exact Below.refl _ _ | refine Below.drew ?_ | refine Below.alloc ?_ (by first | (simp;done) | (simp;omega)) _)):p:=h
theorem P8 (h:p:=by repeat (first | exact Below.refl _ _ | refine Below.alloc ?_ (by first | (simp;done) | (simp;omega)) _)):p:=h
theorem P9 (h:p:=by repeat (first | exact Below.refl _ _ | refine Below.drew ?_ | refine Below.alloc ?_ (by simp) _)):p:=h
theorem Q1 (h:p:=by first | omega | (simp;done) | (simp;omega)):p:=h
theorem Q2 (h:p:=by first | (simp;done) | (simp;omega)):p:=h
theorem Q3 (h:p:=by first | rfl | simp [Act.eval]):p:=h
theorem Q4 (h:p:=by first | omega | (simp;omega)):p:=h
theorem Q5 (h:p:=by unfold maxLen;omega):p:=h
theorem Q7 (h:p:=by kernel_rfl):p:=h
theorem Q8 (h:p:=by simp;omega):p:=h
theorem Q9 (h:p:=by go_simp):p:=h
theorem R3 (h:p:=by decide):p:=h
theorem R4 (h:p:=by omega):p:=h
theorem R5 (h:p:=by simp):p:=h
def B0 (n l g:Int):Bool:=decide (l<=n) && decide (n<=g)
theorem I4 (h1:l<=n) (h2:n<=g):B0 n l g=true:=by simp [B0,h1,h2]
theorem Y5 (h:¬(l<=n/\n<=g)):B0 n l g=false:=by
 simp only[B0,Bool.and_eq_false_iff,decide_eq_false_iff_not];omega
theorem B3 (n l g:Int) (w:World) :
  Calls prog 116 #[.int .i64 n,.int .i64 l,.int .i64 g] w fun e w'=>e=.returned (.bool (B0 n l g))/\w'=w:=by
 by_cases h1:l<=n
 ·by_cases h2:n<=g
  ·rw [I4 h1 h2]
   go_enter func116,ntmps116;go_wp2
   all_goals go_ret
   all_goals exact ⟨by simp,rfl⟩
  ·rw [Y5 (by omega)]
   go_enter func116,ntmps116;go_wp2
   all_goals go_ret
   all_goals exact ⟨by simp,rfl⟩
 ·rw [Y5 (by omega)]
  go_enter func116,ntmps116;go_wp2
  all_goals go_ret
  all_goals exact ⟨by simp,rfl⟩
theorem gW (a b:Option Addr) (n c m d:Nat) (p l x:Int) (w:World) :
  Calls prog 255 #[.agg #[.slice a n c],.agg #[.int .i64 p,.int .i64 l,.slice b m d],.int .i64 x] w fun e w'=>e=.returned (.bool true)/\Below w.heap.size w w':=by
 go_enter func255,ntmps255;go_wp2
 go_ret;exact⟨rfl,by repeat (first | exact Below.refl _ _ | refine Below.drew ?_ | refine Below.alloc ?_ (by simp) _)⟩
theorem jZ (a b:Option Addr) (n c m d:Nat) (p l x:Int) (w:World) :
  Calls prog 257 #[.agg #[.slice a n c],.agg #[.int .i64 p,.int .i64 l,.slice b m d],.int .i64 x] w fun e w'=>e=.returned (.bool (x == 0))/\Below w.heap.size w w':=by
 go_enter func257,ntmps257;go_wp2
 go_ret;exact⟨rfl,by repeat (first | exact Below.refl _ _ | refine Below.drew ?_ | refine Below.alloc ?_ (by simp) _)⟩
theorem lD (a b:Option Addr) (n c m d:Nat) (p l x:Int) (w:World) (h0:0<=l) (h8:l<=8) :
  Calls prog 259 #[.agg #[.slice a n c],.agg #[.int .i64 p,.int .i64 l,.slice b m d],.int .i64 x] w fun e w'=>e=.returned (.bool (B0 x 0 (l - 1)))/\Below w.heap.size w w':=by
 go_enter func259,ntmps259;go_wp2_with (go_at_call 116;refine (B3 _ _ _ _).mono ?_;rintro e w' ⟨rfl,rfl⟩)
 go_ret;exact⟨rfl,by repeat (first | exact Below.refl _ _ | refine Below.drew ?_ | refine Below.alloc ?_ (by simp) _)⟩
theorem bH (a b:Option Addr) (n c m d:Nat) (p l x:Int) (w:World) (hm:m<=1152921504606846976) :
  Calls prog 270 #[.agg #[.slice a n c],.agg #[.int .i64 p,.int .i64 l,.slice b m d],.int .i64 x] w fun e w'=>e=.returned (.bool (B0 x 0 (m - 1)))/\Below w.heap.size w w':=by
 go_enter func270,ntmps270;go_wp2_with (go_at_call 116;refine (B3 _ _ _ _).mono ?_;rintro e w' ⟨rfl,rfl⟩)
 go_ret;exact⟨rfl,by repeat (first | exact Below.refl _ _ | refine Below.drew ?_ | refine Below.alloc ?_ (by simp) _)⟩
theorem fE (a b:Option Addr) (n c m d:Nat) (p l x:Int) (w:World) (hm:n<=1152921504606846976) :
  Calls prog 273 #[.agg #[.slice a n c],.agg #[.int .i64 p,.int .i64 l,.slice b m d],.int .i64 x] w fun e w'=>e=.returned (.bool (B0 x 0 (n - 1)))/\Below w.heap.size w w':=by
 go_enter func273,ntmps273;go_wp2_with (go_at_call 116;refine (B3 _ _ _ _).mono ?_;rintro e w' ⟨rfl,rfl⟩)
 go_ret;exact⟨rfl,by repeat (first | exact Below.refl _ _ | refine Below.drew ?_ | refine Below.alloc ?_ (by simp) _)⟩
theorem dA (a b:Option Addr) (n c m d:Nat) (p l x:Int) (w:World) :
  Calls prog 276 #[.agg #[.slice a n c],.agg #[.int .i64 p,.int .i64 l,.slice b m d],.int .i64 x] w fun e w'=>e=.returned (.bool (B0 x 0 8))/\Below w.heap.size w w':=by
 go_enter func276,ntmps276;go_wp2_with (go_at_call 116;refine (B3 _ _ _ _).mono ?_;rintro e w' ⟨rfl,rfl⟩)
 go_ret;exact⟨rfl,by repeat (first | exact Below.refl _ _ | refine Below.drew ?_ | refine Below.alloc ?_ (by simp) _)⟩
theorem lC (a b:Option Addr) (n c m d:Nat) (p l x:Int) (w:World) :
  Calls prog 280 #[.agg #[.slice a n c],.agg #[.int .i64 p,.int .i64 l,.slice b m d],.int .i64 x] w fun e w'=>e=.returned (.bool (B0 x 0 7))/\Below w.heap.size w w':=by
 go_enter func280,ntmps280;go_wp2_with (go_at_call 116;refine (B3 _ _ _ _).mono ?_;rintro e w' ⟨rfl,rfl⟩)
 go_ret;exact⟨rfl,by repeat (first | exact Below.refl _ _ | refine Below.drew ?_ | refine Below.alloc ?_ (by simp) _)⟩
end
theorem tY (n g:Int) (w:World) :
  Calls prog 134 #[.int .i64 n,.int .i64 g] w fun e w'=>e=.returned (.bool (B0 n 0 (g - 1)))/\w'=w:=by
 by_cases h1:0<=n
 ·by_cases h2:n < g
  ·rw [I4 h1 R4]
   go_enter func134,ntmps134;go_wp2
   all_goals go_ret
   all_goals exact ⟨by simp,rfl⟩
  ·rw [Y5 R4]
   go_enter func134,ntmps134;go_wp2
   all_goals go_ret
   all_goals exact ⟨by simp,rfl⟩
 ·rw [Y5 R4]
  go_enter func134,ntmps134;go_wp2
  all_goals go_ret
  all_goals exact ⟨by simp,rfl⟩
def Y9 (k p l:Int) (n:Nat):Bool:=B0 n 1 60 && (B0 l 0 8 && (B0 p 0 l && (decide (0 < k) || p == 0)))
theorem a1z {k p l:Int} {n:Nat} {r:Bool} (h:((1<=n/\n<=60)/\(0<=l/\l<=8)/\(0<=p/\p<=l)/\(0 < k\/p=0))↔r=true):r=Y9 k p l n:=by
 rw[Bool.eq_iff_iff,<- h];simp only[Y9,B0,Bool.and_eq_true,Bool.or_eq_true,decide_eq_true_eq,beq_iff_eq];omega
theorem oP (k p l:Int) (b:Option Addr) (m d:Nat) (w:World) (hm:m<=1152921504606846976) :
  Calls prog 96 #[.int .i64 k,.agg #[.int .i64 p,.int .i64 l,.slice b m d]] w fun e w'=>e=.returned (.bool (Y9 k p l m))/\L0d w w':=by
 go_enter func96,ntmps96;go_wp2
 all_goals go_ret
 all_goals refine ⟨?_,P7⟩
 all_goals refine congrArg (fun r=>Ending.returned (Value.bool r)) (a1z ?_)
 all_goals simp
 all_goals omega
def E7 (nf:Nat) (l:Int) (nc:Nat) (op x:Int):Bool :=
 if op=0 then true
 else if op=2\/op=3 then B0 x 0 (l - 1)
 else if op=12\/op=13 then B0 x 0 (nc - 1)
 else if op=14 then B0 x 0 (nf - 1)
 else if op=16 then B0 x 0 8
 else if op=19\/op=20 then B0 x 0 7
 else B0 op 0 27 && x == 0
theorem a3k {a b:Bool} (h:a=b):Ending.returned (.bool a)=.returned (.bool b):=by rw [h]
theorem zP {a b:Int} (h:a=b):Ending.returned (.int .i64 a)=.returned (.int .i64 b):=by rw [h]
theorem a0C (a b:Option Addr) (n c m d:Nat) (p l op x:Int) (w:World) :
  Calls prog 97 #[.agg #[.slice a n c],.agg #[.int .i64 p,.int .i64 l,.slice b m d],.agg #[.int .i64 op,.int .i64 x]] w fun e w'=>e=.returned (.bool (E7 n l m op x))/\L0d w w':=by
 go_enter func97,ntmps97;go_wp2_with (go_at_call 134;refine (tY _ _ _).mono ?_;rintro e w' ⟨rfl,rfl⟩)
 all_goals go_ret
 all_goals refine ⟨?_,P7⟩
 all_goals refine a3k ?_
 all_goals go_light
 all_goals simp_all [E7]
def M9 (op:Int):Int:=if op=4\/op=6 then 2 else if op=3\/op=5\/op=12\/op=13\/op=15\/op=20\/op=22\/op=26\/op=27 then 0 else 1
theorem xA (op:Int) (w:World) :
  Calls prog 176 #[.int .i64 op] w fun e w'=>e=.returned (.int .i64 (M9 op))/\w'=w:=by
 go_enter func176,ntmps176;go_wp2
 all_goals go_ret
 all_goals refine ⟨?_,rfl⟩
 all_goals refine zP ?_
 all_goals go_light
 all_goals simp_all [M9]
def O1 (op q:Int):Int :=
 if op=3\/op=4\/op=5\/op=13\/op=15\/op=17\/op=18\/op=19\/op=23\/op=24\/op=25\/op=26 then 1
 else if op=6\/op=7\/op=8\/op=9\/op=10\/op=11\/op=20\/op=21 then 2
 else if op=22 then 3 else if op=14 then q else 0
theorem wZ (a:Option Addr) (n c:Nat) (op x q:Int) (w:World) (h14:(op == 14)=false) :
  Calls prog 169 #[.agg #[.slice a n c],.agg #[.int .i64 op,.int .i64 x]] w fun e w'=>e=.returned (.int .i64 (O1 op q))/\L0d w w':=by
 go_enter func169,ntmps169;go_wp2
 all_goals go_ret
 all_goals refine ⟨?_,P7⟩
 all_goals refine zP ?_
 all_goals go_light
 all_goals simp_all [O1]
theorem a0Y (b o:Nat) (n c:Nat) (x:Nat) (q:Int) (w:World) (hb:b < w.heap.size) (hx:x < n) (hc:w.cell? ⟨b,o+x*3,none⟩=some (.int .i64 q)) :
  Calls prog 169 #[.agg #[.slice (some ⟨b,o,none⟩) n c],.agg #[.int .i64 14,.int .i64 (x:Int)]] w fun e w'=>e=.returned (.int .i64 q)/\L0d w w':=by
 go_enter func169,ntmps169;go_wp2
 go_ret;exact⟨rfl,P7⟩
section
variable {B B' a c n:Nat} {H:Nat->Int} {S:Nat->Prop} {b:Int} {w w':World}
structure G1 where
 n:Nat
 pop:Nat->Int
 push:Nat->Int
 next:Nat->List Nat
def G1.behind (F:G1) (a:Nat) (h:Int):Int:=h - F.pop a+F.push a
def G1.Reach (F:G1) (pc:Nat) (h:Int):Prop :=
 ∀S:Nat->Int->Prop,S 0 0->(∀a b c,S a b->c∈F.next a->S c (F.behind a b))->S pc h
def G1.Fits (F:G1):Prop :=
 (∀a b,F.Reach a b->a < F.n/\F.pop a<=b/\F.behind a b<=10)/\∀a b b',F.Reach a b->F.Reach a b'->b=b'
theorem G1.reach_first (F:G1):F.Reach 0 0:=fun _ h _=>h
theorem G1.reach_next {F:G1} (h:F.Reach a b) (hc:c∈F.next a):F.Reach c (F.behind a b) :=
 fun S h0 hs=>hs a b c (h S h0 hs) hc
def G1.Shut (F:G1) (H:Nat->Int) (a:Nat):Prop :=
 F.pop a<=H a/\F.behind a (H a)<=10/\∀c,c∈F.next a->c < F.n/\H c=F.behind a (H a)
theorem G1.fits_of_shut {F:G1} (hn:0 < F.n) (h0:H 0=0) (hp:∀a,0<=F.push a) (hs:∀a,a < F.n->0<=H a->F.Shut H a):F.Fits:=by
 have xa:∀a b,F.Reach a b->a < F.n/\H a=b/\0<=b:=fun a b h=>by
  refine h (fun a b=>a < F.n/\H a=b/\0<=b) ⟨hn,h0,Int.le_refl 0⟩ ?_;rintro a b c ⟨ha,hb,hz⟩ hc;obtain⟨h1,_,h3⟩:=hs a ha R4;obtain⟨h4,h5⟩:=h3 c hc;have:=hp a;refine⟨h4,by rw [h5,hb],?_⟩;unfold G1.behind;omega
 refine⟨fun a b h=>?_,fun a b b' h h'=>?_⟩
 ·obtain ⟨ha,hb,hz⟩:=xa a b h
  obtain⟨h1,h2,_⟩:=hs a ha R4;rw[hb] at h1 h2;exact⟨ha,h1,h2⟩
 ·rw [<- (xa a b h).2.1,<- (xa a b' h').2.1]
theorem G1.not_fits_pop {F:G1} (h:F.Reach a b) (hb:b < F.pop a\/10 < F.behind a b):¬F.Fits:=fun hf=>by
 have:=hf.1 a b h;omega
theorem G1.not_fits_past {F:G1} (h:F.Reach a b) (hc:c∈F.next a) (hn:F.n<=c):¬F.Fits:=fun hf=>by
 have:=(hf.1 c _ (G1.reach_next h hc)).1;omega
theorem G1.not_fits_two {F:G1} {h':Int} (h:F.Reach a b) (hc:c∈F.next a) (h2:F.Reach c h') (hne:h'≠F.behind a b):¬F.Fits:=fun hf =>
 hne (hf.2 c _ _ h2 (G1.reach_next h hc))
def left (n:Nat) (H:Nat->Int):Nat:=((List.range n).filter fun i=>decide (H i < 0)).length
theorem iH {v:Int} (hc:c < n) (hH:H c < 0) (hv:0<=v):left n (fun i=>if i=c then v else H i)+1=left n H:=by
 induction n with
 | zero=>omega
 | succ n ih =>
  simp only[left];rw[List.range_succ,List.filter_append,List.filter_append,List.length_append,List.length_append];by_cases e:c=n
  ·subst e
   have e1:(List.range c).filter (fun i=>decide ((if i=c then v else H i) < 0))=(List.range c).filter (fun i=>decide (H i < 0)):=by
    refine List.filter_congr fun i hi=>?_
    have:i < c:=List.mem_range.1 hi;rw[if_neg R4]
   rw[e1];simp[hH];omega
  ·have hi:=ih R4
   simp only[left] at hi;have e2:((if n=c then v else H n) < 0)=(H n < 0):=by rw [if_neg R4]
   simp only[List.filter_cons,List.filter_nil,e2];omega
structure FnR where
 p:Int
 l:Int
 a:Option Addr
 n:Nat
 c:Nat
 b:Nat
 o:Nat
 op:Nat->Int
 ar:Nat->Int
structure PgR where
 a:Option Addr
 n:Nat
 c:Nat
 b:Nat
 o:Nat
 f:Nat->FnR
def L4 (B:Nat) (w:World) (f:FnR):Prop :=
 f.n<=1152921504606846976/\(0 < f.n->f.a=some ⟨f.b,f.o,none⟩/\f.b < B/\∀j,j < f.n ->
  w.cell? ⟨f.b,f.o+j*2,none⟩=some (.int .i64 (f.op j))/\w.cell? ⟨f.b,f.o+j*2+1,none⟩=some (.int .i64 (f.ar j)))
def I5 (B:Nat) (w:World) (g:PgR):Prop :=
 g.n<=1152921504606846976/\(0 < g.n->g.a=some ⟨g.b,g.o,none⟩/\g.b < B/\∀i,i < g.n ->
  w.cell? ⟨g.b,g.o+i*3,none⟩=some (.int .i64 (g.f i).p)/\w.cell? ⟨g.b,g.o+i*3+1,none⟩=some (.int .i64 (g.f i).l) /\
  w.cell? ⟨g.b,g.o+i*3+2,none⟩=some (.slice (g.f i).a (g.f i).n (g.f i).c))/\∀i,i < g.n->L4 B w (g.f i)
theorem L4.below {f:FnR} (h:L4 B w f) (hb:Below B w w'):L4 B w' f :=
 ⟨h.1,fun hn=>by
  obtain⟨h1,h2,h3⟩:=h.2 hn;refine⟨h1,h2,fun j hj=>?_⟩;rw[hb.cell (p:=⟨f.b,f.o+j*2,none⟩) h2,hb.cell (p:=⟨f.b,f.o+j*2+1,none⟩) h2];exact h3 j hj⟩
theorem L4.mono {f:FnR} (h:L4 B w f) (hb:B<=B'):L4 B' w f :=
 ⟨h.1,fun hn=>by obtain ⟨h1,h2,h3⟩:=h.2 hn;exact ⟨h1,by omega,h3⟩⟩
theorem I5.below {g:PgR} (h:I5 B w g) (hb:Below B w w'):I5 B w' g :=
 ⟨h.1,fun hn=>by
  obtain⟨h1,h2,h3⟩:=h.2.1 hn;refine⟨h1,h2,fun i hi=>?_⟩;rw[hb.cell (p:=⟨g.b,g.o+i*3,none⟩) h2,hb.cell (p:=⟨g.b,g.o+i*3+1,none⟩) h2,hb.cell (p:=⟨g.b,g.o+i*3+2,none⟩) h2];exact h3 i hi,fun i hi=>(h.2.2 i hi).below hb⟩
theorem I5.mono {g:PgR} (h:I5 B w g) (hb:B<=B'):I5 B' w g :=
 ⟨h.1,fun hn=>by obtain ⟨h1,h2,h3⟩:=h.2.1 hn;exact ⟨h1,by omega,h3⟩,fun i hi=>(h.2.2 i hi).mono hb⟩
structure But (S:Nat->Prop) (w w':World):Prop where
 os:w'.os=w.os
 tape:w'.tape=w.tape
 output:w'.output=w.output
 size:w.heap.size<=w'.heap.size
 block:∀k,k < w.heap.size->¬S k->w'.heap[k]?=w.heap[k]?
theorem But.refl (S:Nat->Prop) (w:World):But S w w:=⟨rfl,rfl,rfl,L1c _,fun _ _ _=>rfl⟩
theorem But.trans {a b c:World} (h:But S a b) (k:But S b c):But S a c :=
 ⟨k.os.trans h.os,k.tape.trans h.tape,k.output.trans h.output,L5a h.size k.size,fun i hi hs=>(k.block i (L0a hi h.size) hs).trans (h.block i hi hs)⟩
theorem But.of_below (h:L0d w w'):But S w w':=⟨h.os,h.tape,h.output,h.size,fun k hk _=>h.block k hk⟩
theorem But.alloc {a:World} (h:But S a w) (o:Obj):But S a (w.alloc o) :=
 h.trans ⟨rfl,rfl,rfl,by simp,fun k hk _=>Below.heap_alloc _ _ _ hk⟩
theorem But.setCell {a:World} (h:But S a w) {p:Addr} (hp:S p.block\/a.heap.size<=p.block) (u:Value):But S a (w.setCell p u) :=
 ⟨h.os,h.tape,h.output,by have:=h.size;simpa [World.setCell] using this,fun k hk hs=>(Below.heap_setCell _ _ _ _ (by rcases hp with hp | hp;exact fun e=>hs (e▸hp);omega)).trans (h.block k hk hs)⟩
theorem But.cell (h:But S w w') {p:Addr} (hp:p.block < w.heap.size) (hs:¬S p.block):w'.cell? p=w.cell? p:=L0b (w:=w) (h.block p.block hp hs)
theorem But.below (h:But S w w') {B:Nat} (hB:B<=w.heap.size) (hs:∀k,k < B->¬S k):Below B w w' :=
 ⟨h.os,h.tape,h.output,h.size,fun k hk=>h.block k (L0a hk hB) (hs k hk)⟩
def rM (n:Nat) (ok:Nat->Bool) (k:Nat):Prop:=k < n/\ok k=false/\∀j,j < k->ok j=true
theorem rM.unique {ok:Nat->Bool} {k k':Nat} (h:rM n ok k) (h':rM n ok k'):k=k':=by
 rcases Nat.lt_trichotomy k k' with hl | hl | hl
 ·have:=h'.2.2 k hl;rw [h.2.1] at this;cases this
 ·exact hl
 ·have:=h.2.2 k' hl;rw [h'.2.1] at this;cases this
def W8 (g:PgR) (at_:Int) (ok:Bool):Prop :=
 (ok=true/\at_=0/\1<=g.n/\g.n<=8/\∀i,i < g.n->Y9 i (g.f i).p (g.f i).l (g.f i).n=true) \/
 (ok=false/\at_=0/\¬(1<=g.n/\g.n<=8)) \/
 (ok=false/\1<=g.n/\g.n<=8/\∃k:Nat,at_=k/\rM g.n (fun i=>Y9 i (g.f i).p (g.f i).l (g.f i).n) k)
end
section
variable {a b c:Nat->Value} {base j n size:Nat} {e:TypeId} {w:World} {xs:List Value}
def iD (n:Nat) (a b:Nat->Value):List Value:=(List.range n).flatMap fun j=>[a j,b j]
def fF (n:Nat) (a b c:Nat->Value):List Value:=(List.range n).flatMap fun j=>[a j,b j,c j]
theorem lP (n:Nat) (a b:Nat->Value):iD (n+1) a b=iD n a b++[a n,b n]:=by simp [iD,List.range_succ]
theorem Y4 (n:Nat) (a b c:Nat->Value):fF (n+1) a b c=fF n a b c++[a n,b n,c n]:=by simp [fF,List.range_succ]
theorem I1 (n:Nat) (a b:Nat->Value):(iD n a b).length=n*2:=by
 induction n with
 | zero=>rfl
 | succ n ih=>rw [lP,List.length_append,ih];simp;omega
theorem L3 (n:Nat) (a b c:Nat->Value):(fF n a b c).length=n*3:=by
 induction n with
 | zero=>rfl
 | succ n ih=>rw [Y4,List.length_append,ih];simp;omega
theorem bZ (h:j < n):(iD n a b)[j*2]?=some (a j)/\(iD n a b)[j*2+1]?=some (b j):=by
 induction n with
 | zero=>omega
 | succ n ih =>
  rw[lP];by_cases e:j=n
  ·subst e
   rw[List.getElem?_append_right (by rw [I1];omega),List.getElem?_append_right (by rw [I1];omega),I1];simp
  ·obtain ⟨h1,h2⟩:=ih R4
   rw[List.getElem?_append_left (by rw [I1];omega),List.getElem?_append_left (by rw [I1];omega)];exact⟨h1,h2⟩
theorem oF (h:j < n):(fF n a b c)[j*3]?=some (a j)/\(fF n a b c)[j*3+1]?=some (b j)/\(fF n a b c)[j*3+2]?=some (c j):=by
 induction n with
 | zero=>omega
 | succ n ih =>
  rw[Y4];by_cases e:j=n
  ·subst e
   rw[List.getElem?_append_right (by rw [L3];omega),List.getElem?_append_right (by rw [L3];omega),List.getElem?_append_right (by rw [L3];omega),L3];simp
  ·obtain ⟨h1,h2,h3⟩:=ih R4
   rw[List.getElem?_append_left (by rw [L3];omega),List.getElem?_append_left (by rw [L3];omega),List.getElem?_append_left (by rw [L3];omega)];exact⟨h1,h2,h3⟩
theorem jW {c':Nat->Value} (h:∀j,j < n->c j=c' j):fF n a b c=fF n a b c':=by
 induction n with
 | zero=>rfl
 | succ n ih=>rw [Y4,Y4,ih (fun j hj=>h j R4),h n R4]
theorem jF {a b:Nat->Int} : ∀u∈iD n (fun j=>.int .i64 (a j)) (fun j=>.int .i64 (b j)),u.oneCell'=true:=by
 intro u hu;simp only[iD,List.mem_flatMap,List.mem_range,List.mem_cons,List.not_mem_nil,or_false] at hu;obtain⟨j,_,rfl | rfl⟩:=hu <;> rfl
theorem D6 {base':Nat} {v:Value} (h:w.ownsRow base e size v n xs) (hb:base'<=base):w.ownsRow base' e size v n xs :=
 ⟨h.1,h.2.imp id fun ⟨g,cap,cur,h1,h2,h3⟩=>⟨g,cap,cur,h1,L5a hb h2,h3⟩⟩
theorem J3 {w':World} {b c:Nat} (h:w.ownsRow base e size (.slice (some ⟨b,0,none⟩) n c) n xs) (hb:w'.heap[b]?=w.heap[b]?):w'.ownsRow base e size (.slice (some ⟨b,0,none⟩) n c) n xs:=by
 refine⟨h.1,L4b ?_⟩;rcases h.2 with ⟨h0,_⟩ | ⟨g,xb,xa,hv,h1,h2,h3⟩
 ·cases h0
 ·cases hv
  exact⟨b,c,xa,rfl,h1,hb.trans h2,h3⟩
theorem I6 {b c:Nat} (h:w.ownsRow base e size (.slice (some ⟨b,0,none⟩) n c) n xs):base<=b/\b < w.heap.size/\n<=c/\c<=maxLen/\∃cur,w.heap[b]?=some (.cells cur e (0,0)):=by
 rcases h.2 with ⟨h0,_⟩ | ⟨g,xa,cur,hv,h1,h2,h3,h4,_⟩
 ·cases h0
 ·cases hv
  refine⟨h1,?_,h3,h4,cur,h2⟩;rcases Nat.lt_or_ge b w.heap.size with hlt | hge
  ·exact hlt
  ·rw [Array.getElem?_eq_none hge] at h2;cases h2
def J9 (f:FnR):List Value:=iD f.n (fun j=>.int .i64 (f.op j)) (fun j=>.int .i64 (f.ar j))
def iC:List Value:=[.int .i64 (-7070),.int .i64 0,.int .i64 (-7070),.int .i64 0]
def E1 (g:PgR) (Bk C:Nat->Nat) (n:Nat):List Value :=
 fF n (fun j=>.int .i64 (g.f j).p) (fun j=>.int .i64 (g.f j).l) (fun j=>.slice (some ⟨Bk j,0,none⟩) (g.f j).n (C j))
def U5 (B:Nat) (w:World) (f:FnR) (b c:Nat):Prop:=w.ownsRow B 165 2 (.slice (some ⟨b,0,none⟩) (f.n+2) c) (f.n+2) (J9 f++iC)
def gU (g:PgR):Prop:=g.n*40<=140737488351232/\∀i,i < g.n->(g.f i).n*16<=140737488351232/\((g.f i).a=none->(g.f i).n=0/\(g.f i).c=0)
def rO (g:PgR) (w:World) (e:Ending) (w':World):Prop :=
 ∃(Bk C:Nat->Nat) (cb cc:Nat),e=.returned (.agg #[.slice (some ⟨cb,0,none⟩) g.n cc]) /\
  w'.ownsRow w.heap.size 163 3 (.slice (some ⟨cb,0,none⟩) (g.n+1) cc) (g.n+1) (E1 g Bk C g.n++[.int .i64 (-7070),.int .i64 0,.slice none 0 0]) /\
  (∀j,j < g.n->U5 w.heap.size w' (g.f j) (Bk j) (C j))/\(∀i j,i < g.n->j < g.n->Bk i=Bk j->i=j)/\L0d w w'
theorem a2H:(Tryz.prog.info? 163).map (fun i=>(i.zero,i.size,i.bytes))=some (some (.agg #[.int .i64 0,.int .i64 0,.slice none 0 0]),3,40):=by kernel_rfl
theorem a2I:(Tryz.prog.info? 165).map (fun i=>(i.zero,i.size,i.bytes))=some (some (.agg #[.int .i64 0,.int .i64 0]),2,16):=by kernel_rfl
end
def D5 (pc:Nat) (op x:Int):List Nat :=
 if op=15\/op=27 then [] else if op=12 then [x.toNat] else if op=13 then [x.toNat,pc+1] else [pc+1]
def uM (B:Nat) (w:World) (v:Value) (l:List Nat):Prop :=
 (v=.slice none 0 0/\l=[])\/∃b,v=.slice (some ⟨b,0,none⟩) l.length l.length/\B<=b/\b < w.heap.size/\∀i,i < l.length->w.cell? ⟨b,i,none⟩=some (.int .i64 (l.getD i 0:Nat))
theorem lY (w:World) (o:Obj) (y:Int) (c:Nat) (h:y=c) :
  uM w.heap.size ((w.alloc o).alloc (.cells #[.int .i64 y] 3)) (.slice (some ⟨w.heap.size+1,0,none⟩) 1 1) [c]:=by
 refine L4b ⟨w.heap.size+1,rfl,by omega,by simp,fun i hi=>?_⟩;obtain rfl:i=0:=by simpa using hi
 subst h;go_simp
theorem wG (w:World) (o:Obj) (y z:Int) (c d:Nat) (h:y=c) (h':z=d) :
  uM w.heap.size ((w.alloc o).alloc (.cells #[.int .i64 y,.int .i64 z] 3)) (.slice (some ⟨w.heap.size+1,0,none⟩) 2 2) [c,d]:=by
 refine L4b ⟨w.heap.size+1,rfl,by omega,by simp,fun i hi=>?_⟩;subst h h'
 match i,hi with
 | 0,_=>go_simp
 | 1,_=>go_simp
theorem a2U (pc:Nat) (op x:Int) (w:World) (hpc:pc<=1000) (hx:Hid (op=12\/op=13->0<=x)) :
  Calls prog 177 #[.int .i64 (pc:Int),.agg #[.int .i64 op,.int .i64 x]] w fun e w'=>∃v,e=.returned v/\uM w.heap.size w' v (D5 pc op x)/\L0d w w':=by
 go_enter func177,ntmps177;go_wp2
 all_goals go_ret
 all_goals refine ⟨_,rfl,?_,P4⟩
 all_goals go_light
 ·have:op=15:=by simp_all
  rw[show D5 pc op x=[] by simp [D5,this]];exact L4a ⟨rfl,rfl⟩
 ·have:op=27:=by simp_all
  rw[show D5 pc op x=[] by simp [D5,this]];exact L4a ⟨rfl,rfl⟩
 ·have xb:op=12:=by simp_all
  have:=hx.out (L4a xb);rw[show D5 pc op x=[x.toNat] by simp [D5,xb]];exact lY w _ _ _ R4
 ·have xa:op=13:=by simp_all
  have:=hx.out (L4b xa);rw[show D5 pc op x=[x.toNat,pc+1] by simp [D5,xa]];exact wG w _ _ _ _ _ R4 R4
 ·rw [show D5 pc op x=[pc+1] by simp_all [D5]];exact lY w _ _ _ R4
section
variable {F:G1} {H H':Nat->Int} {Q Q':Prop} {fr:Bool} {l op x:Int} {nc nf:Nat}
def B6 (g:PgR) (f:FnR):G1 :=
 { n:=f.n,pop:=fun a=>O1 (f.op a) (g.f (f.ar a).toNat).p,push:=fun a=>M9 (f.op a),next:=fun a=>D5 a (f.op a) (f.ar a) }
def uJ (g:PgR) (f:FnR):Prop :=
 1<=f.n/\f.n<=60/\(∀i,i < g.n->0<=(g.f i).p/\(g.f i).p<=8)/\∀j,j < f.n->E7 g.n f.l f.n (f.op j) (f.ar j)=true
theorem E2 {n g:Int} : B0 n l g=true↔l<=n/\n<=g:=by simp [B0]
theorem iI (h:E7 nf l nc op x=true):0<=op/\op<=27:=by
 unfold E7 at h
 repeat' split at h
 all_goals first | omega | (rw [Bool.and_eq_true,E2] at h;omega)
theorem U7 (h:E7 nf l nc op x=true) (ho:op=12\/op=13):0<=x/\x < nc:=by
 unfold E7 at h;rw[if_neg R4,if_neg R4,if_pos ho,E2] at h;omega
theorem N6 (h:E7 nf l nc op x=true) (ho:op=14):0<=x/\x < nf:=by
 unfold E7 at h;rw[if_neg R4,if_neg R4,if_neg R4,if_pos ho,E2] at h;omega
theorem aD (op:Int):0<=M9 op/\M9 op<=2:=by unfold M9;split <;> (try split) <;> omega
theorem zM (op q:Int) (h:op=14->0<=q/\q<=8):0<=O1 op q/\O1 op q<=8:=by
 unfold O1;split
 ·omega
 ·split
  ·omega
  ·split
   ·omega
   ·split
    ·exact h ‹_›
    ·omega
theorem uJ.pop_bd {g:PgR} {f:FnR} (h:uJ g f) {a:Nat} (ha:a < f.n):0<=(B6 g f).pop a/\(B6 g f).pop a<=8:=by
 refine zM _ _ fun ho=>?_
 have:=N6 (h.2.2.2 a ha) ho;exact h.2.2.1 _ R4
theorem a3d (B:Nat) (g:PgR) (op x:Int) (w:World) (hB:B<=w.heap.size) (hg:I5 B w g) (hx:op=14->0<=x/\x < g.n) :
  Calls Tryz.prog 169 #[.agg #[.slice g.a g.n g.c],.agg #[.int .i64 op,.int .i64 x]] w fun e w'=>e=.returned (.int .i64 (O1 op (g.f x.toNat).p))/\L0d w w':=by
 by_cases h:op=14
 ·obtain ⟨h0,h1⟩:=hx h
  obtain⟨k,rfl⟩:=L5c h0;obtain⟨ha,hb,hc⟩:=hg.2.1 R4;subst h;rw[ha,Int.toNat_natCast,show O1 14 (g.f k).p=(g.f k).p by simp [O1]];exact a0Y g.b g.o g.n g.c k _ w R4 R4 (hc k R4).1
 ·exact wZ _ _ _ _ _ _ w (L2c.2 h)
def Sp (F:G1) (H H':Nat->Int) (Q:Prop) (fr:Bool):Prop :=
 (∀a,a < F.n -> -1<=H' a/\H' a<=10/\(0<=H' a->F.Reach a (H' a)))/\(∀a,0<=H a->H' a=H a) /\
  ((fr=false/\(∀a,H' a=H a)/\Q)\/(fr=true/\left F.n H' < left F.n H))
theorem Sp.imp (h:Sp F H H' Q fr) (hq:(∀a,H' a=H a)->Q->Q'):Sp F H H' Q' fr :=
 ⟨h.1,h.2.1,h.2.2.imp (fun ⟨a,b,c⟩=>⟨a,b,hq b c⟩) id⟩
theorem Sp.set {c:Nat} {v:Int} (h:Sp F H H' Q fr) (hc:c < F.n) (hn:H' c < 0) (hv:0<=v) (hv':v<=10) (hr:F.Reach c v) :
  Sp F H (fun i=>if i=c then v else H' i) Q' true:=by
 refine⟨fun a ha=>?_,fun a ha=>?_,L4b ⟨rfl,?_⟩⟩
 ·by_cases e:a=c
  ·subst e;simp only [if_pos];exact ⟨by omega,hv',fun _=>hr⟩
  ·simp only [if_neg e];exact h.1 a ha
 ·have:=h.2.1 a ha
  have xa:a≠c:=by intro e;subst e;omega
  simp only[if_neg xa];exact this
 ·have h1:=iH hc hn hv
  have h2:left F.n H'<=left F.n H:=by
   rcases h.2.2 with ⟨_,he,_⟩ | ⟨_,hl⟩
   ·rw [show H'=H from funext he];exact L1c _
   ·omega
  omega
def nZ (F:G1) (H:Nat->Int) (H':Nat->Int) (fr ok:Bool):Prop :=
 (ok=false/\¬F.Fits)\/(ok=true/\Sp F H H' (∀a,a < F.n->0<=H a->F.Shut H a) fr)
theorem But.drewN {S:Nat->Prop} {a w:World} (h:But S a w) (n:Nat):But S a (w.drewN n):=⟨h.os,h.tape,h.output,h.size,h.block⟩
end
theorem qI (a:Option Addr) (n c:Nat) (k:Nat) (x q:Int) (w:World) (hz:0 < w.heap.size) (hk:k < 28) (hq:(q != -1)=true) (ht:w.cell? ⟨0,k*5,none⟩=some (.int .i64 q)) :
  Calls prog 180 #[.agg #[.slice a n c],.agg #[.int .i64 (k:Int),.int .i64 x]] w fun e w'=>e=.returned (.int .i64 q)/\L0d w w':=by
 go_enter func180,ntmps180;go_wp2
 go_ret;exact⟨rfl,P9⟩
theorem tP (b o:Nat) (n c:Nat) (x:Nat) (q:Int) (w:World) (hz:0 < w.heap.size) (hb:b < w.heap.size) (hx:x < n) (ht:w.cell? ⟨0,70,none⟩=some (.int .i64 (-1)))
  (hc:w.cell? ⟨b,o+x*3,none⟩=some (.int .i64 q)) :
  Calls prog 180 #[.agg #[.slice (some ⟨b,o,none⟩) n c],.agg #[.int .i64 14,.int .i64 (x:Int)]] w fun e w'=>e=.returned (.int .i64 q)/\L0d w w':=by
 go_enter func180,ntmps180;go_wp2
 go_ret;exact⟨rfl,P9⟩
def gJ (p l:Int) (n:Nat):Bool:=B0 n 1 60 && (B0 l 0 8 && B0 p 0 l)
theorem aR (p l:Int) (b:Option Addr) (m d:Nat) (w:World) :
  Calls prog 173 #[.agg #[.int .i64 p,.int .i64 l,.slice b m d]] w fun e w'=>e=.returned (.bool (gJ p l m))/\L0d w w':=by
 cases h1:B0 m 1 60
 ·go_enter func173,ntmps173
  go_wp2_with (go_at_call 116;refine (B3 _ _ _ _).mono ?_;rintro e w' ⟨rfl,rfl⟩)
  go_ret;exact⟨by simp [gJ,h1],P9⟩
 ·cases h2:B0 l 0 8
  ·go_enter func173,ntmps173
   go_wp2_with (go_at_call 116;refine (B3 _ _ _ _).mono ?_;rintro e w' ⟨rfl,rfl⟩)
   go_ret;exact⟨by simp [gJ,h1,h2],P9⟩
  ·go_enter func173,ntmps173
   go_wp2_with (go_at_call 116;refine (B3 _ _ _ _).mono ?_;rintro e w' ⟨rfl,rfl⟩)
   go_ret;exact⟨by simp [gJ,h1,h2],P9⟩
theorem D9 {P:Program} {f:FuncId} {args:Array Value} {w:World} {d:Nat} {os:Array Obj} {v:Value}
  (h:Calls P f args (grow (redrawn w d) os) fun e w'=>e=.returned v/\w'=grow (redrawn w d) os):Calls P f args (grow (redrawn w d) os) fun e w''=>e=.returned v/\∃p:Regrown,w''=grow (redrawn w p.d) p.os :=
 h.mono fun _ _ ⟨he,hb⟩=>⟨he,⟨⟨d,os⟩,hb⟩⟩
theorem fV (a b:Option Addr) (n c m d:Nat) (p l x:Int) (k:Nat) (w:World):(∀(dd:Nat) (os:Array Obj),(grow (redrawn (((w.alloc (Obj.cells #[.slice a n c] 41)).alloc (Obj.cells #[.int .i64 p,.int .i64 l,.slice b m d] 163)).alloc (Obj.cells #[.int .i64 (k:Int),.int .i64 x] 165)) dd) os).cell? ⟨w.heap.size,0,none⟩=some (.slice a n c))/\(∀(dd:Nat) (os:Array Obj),(grow (redrawn (((w.alloc (Obj.cells #[.slice a n c] 41)).alloc (Obj.cells #[.int .i64 p,.int .i64 l,.slice b m d] 163)).alloc (Obj.cells #[.int .i64 (k:Int),.int .i64 x] 165)) dd) os).cell? ⟨w.heap.size+1,0,none⟩=some (.int .i64 p))/\(∀(dd:Nat) (os:Array Obj),(grow (redrawn (((w.alloc (Obj.cells #[.slice a n c] 41)).alloc (Obj.cells #[.int .i64 p,.int .i64 l,.slice b m d] 163)).alloc (Obj.cells #[.int .i64 (k:Int),.int .i64 x] 165)) dd) os).cell? ⟨w.heap.size+1,1,none⟩=some (.int .i64 l))/\(∀(dd:Nat) (os:Array Obj),(grow (redrawn (((w.alloc (Obj.cells #[.slice a n c] 41)).alloc (Obj.cells #[.int .i64 p,.int .i64 l,.slice b m d] 163)).alloc (Obj.cells #[.int .i64 (k:Int),.int .i64 x] 165)) dd) os).cell? ⟨w.heap.size+1,2,none⟩=some (.slice b m d))/\(∀(dd:Nat) (os:Array Obj),(grow (redrawn (((w.alloc (Obj.cells #[.slice a n c] 41)).alloc (Obj.cells #[.int .i64 p,.int .i64 l,.slice b m d] 163)).alloc (Obj.cells #[.int .i64 (k:Int),.int .i64 x] 165)) dd) os).cell? ⟨w.heap.size+1+1,0,none⟩=some (.int .i64 k))/\(∀(dd:Nat) (os:Array Obj),(grow (redrawn (((w.alloc (Obj.cells #[.slice a n c] 41)).alloc (Obj.cells #[.int .i64 p,.int .i64 l,.slice b m d] 163)).alloc (Obj.cells #[.int .i64 (k:Int),.int .i64 x] 165)) dd) os).cell? ⟨w.heap.size+1+1,1,none⟩=some (.int .i64 x)) :=
 ⟨cell_regrown Q9,cell_regrown Q9,cell_regrown Q9,cell_regrown Q9,cell_regrown Q9,cell_regrown Q9⟩
theorem pL (a b:Option Addr) (n c m d:Nat) (p l x:Int) (k:Nat) (w:World) (hz:0 < w.heap.size) (hk:k < 28) (ht:w.cell? ⟨0,k*5+3,none⟩=some (.func (.func 255) #[] #[])) :
  Calls prog 174 #[.agg #[.slice a n c],.agg #[.int .i64 p,.int .i64 l,.slice b m d],.agg #[.int .i64 (k:Int),.int .i64 x]] w fun e w'=>e=.returned (.bool (true))/\L0d w w':=by
 have xb:B0 k 0 27=true:=I4 R4 R4;go_enter func174,ntmps174;go_wp2
 have hB:L0d w (((w.alloc (Obj.cells #[.slice a n c] 41)).alloc (Obj.cells #[.int .i64 p,.int .i64 l,.slice b m d] 163)).alloc (Obj.cells #[.int .i64 (k:Int),.int .i64 x] 165)):=by repeat (first | exact L3b _ _ | refine L3a ?_ Q2 _)
 obtain⟨k0,k1,k2,k3,k4,k5⟩:=fV a b n c m d p l x k w;have k6:=cell_regrown (w:=(((w.alloc (Obj.cells #[.slice a n c] 41)).alloc (Obj.cells #[.int .i64 p,.int .i64 l,.slice b m d] 163)).alloc (Obj.cells #[.int .i64 (k:Int),.int .i64 x] 165))) (a:=⟨0,k*5+3,none⟩) (v:=.func (.func 255) #[] #[]) Q9;generalize (((w.alloc (Obj.cells #[.slice a n c] 41)).alloc (Obj.cells #[.int .i64 p,.int .i64 l,.slice b m d] 163)).alloc (Obj.cells #[.int .i64 (k:Int),.int .i64 x] 165))=W at *
 refine wp_region_quiet_below Q7 Q7 ?_
 repeat (first
  | go_big_quiet_step (first | (go_at_call 116;exact D9 (B3 _ _ _ _)) | (go_at_call 255;exact Calls.regrown_of (gW _ _ _ _ _ _ _ _ _ _)))
  | quiet_step (first | (go_at_call 116;exact D9 (B3 _ _ _ _)) | (go_at_call 255;exact Calls.regrown_of (gW _ _ _ _ _ _ _ _ _ _))))
 refine wpQuiet_nil ?_;intro _ hw';obtain⟨⟨dq,xa⟩,hw''⟩:=hw';subst hw'';go_wp2
 go_ret;exact⟨rfl,hB.trans ((below_regrown W dq xa).mono hB.size)⟩
theorem pM (a b:Option Addr) (n c m d:Nat) (p l x:Int) (k:Nat) (w:World) (hz:0 < w.heap.size) (hk:k < 28) (ht:w.cell? ⟨0,k*5+3,none⟩=some (.func (.func 257) #[] #[])) :
  Calls prog 174 #[.agg #[.slice a n c],.agg #[.int .i64 p,.int .i64 l,.slice b m d],.agg #[.int .i64 (k:Int),.int .i64 x]] w fun e w'=>e=.returned (.bool (x == 0))/\L0d w w':=by
 have xb:B0 k 0 27=true:=I4 R4 R4;go_enter func174,ntmps174;go_wp2
 have hB:L0d w (((w.alloc (Obj.cells #[.slice a n c] 41)).alloc (Obj.cells #[.int .i64 p,.int .i64 l,.slice b m d] 163)).alloc (Obj.cells #[.int .i64 (k:Int),.int .i64 x] 165)):=by repeat (first | exact L3b _ _ | refine L3a ?_ Q2 _)
 obtain⟨k0,k1,k2,k3,k4,k5⟩:=fV a b n c m d p l x k w;have k6:=cell_regrown (w:=(((w.alloc (Obj.cells #[.slice a n c] 41)).alloc (Obj.cells #[.int .i64 p,.int .i64 l,.slice b m d] 163)).alloc (Obj.cells #[.int .i64 (k:Int),.int .i64 x] 165))) (a:=⟨0,k*5+3,none⟩) (v:=.func (.func 257) #[] #[]) Q9;generalize (((w.alloc (Obj.cells #[.slice a n c] 41)).alloc (Obj.cells #[.int .i64 p,.int .i64 l,.slice b m d] 163)).alloc (Obj.cells #[.int .i64 (k:Int),.int .i64 x] 165))=W at *
 refine wp_region_quiet_below Q7 Q7 ?_
 repeat (first
  | go_big_quiet_step (first | (go_at_call 116;exact D9 (B3 _ _ _ _)) | (go_at_call 257;exact Calls.regrown_of (jZ _ _ _ _ _ _ _ _ _ _)))
  | quiet_step (first | (go_at_call 116;exact D9 (B3 _ _ _ _)) | (go_at_call 257;exact Calls.regrown_of (jZ _ _ _ _ _ _ _ _ _ _))))
 refine wpQuiet_nil ?_;intro _ hw';obtain⟨⟨dq,xa⟩,hw''⟩:=hw';subst hw'';go_wp2
 go_ret;exact⟨rfl,hB.trans ((below_regrown W dq xa).mono hB.size)⟩
theorem pN (a b:Option Addr) (n c m d:Nat) (p l x:Int) (k:Nat) (w:World) (hz:0 < w.heap.size) (hk:k < 28) (ht:w.cell? ⟨0,k*5+3,none⟩=some (.func (.func 259) #[] #[])) (h0:0<=l) (h8:l<=8) :
  Calls prog 174 #[.agg #[.slice a n c],.agg #[.int .i64 p,.int .i64 l,.slice b m d],.agg #[.int .i64 (k:Int),.int .i64 x]] w fun e w'=>e=.returned (.bool (B0 x 0 (l - 1)))/\L0d w w':=by
 have xb:B0 k 0 27=true:=I4 R4 R4;go_enter func174,ntmps174;go_wp2
 have hB:L0d w (((w.alloc (Obj.cells #[.slice a n c] 41)).alloc (Obj.cells #[.int .i64 p,.int .i64 l,.slice b m d] 163)).alloc (Obj.cells #[.int .i64 (k:Int),.int .i64 x] 165)):=by repeat (first | exact L3b _ _ | refine L3a ?_ Q2 _)
 obtain⟨k0,k1,k2,k3,k4,k5⟩:=fV a b n c m d p l x k w;have k6:=cell_regrown (w:=(((w.alloc (Obj.cells #[.slice a n c] 41)).alloc (Obj.cells #[.int .i64 p,.int .i64 l,.slice b m d] 163)).alloc (Obj.cells #[.int .i64 (k:Int),.int .i64 x] 165))) (a:=⟨0,k*5+3,none⟩) (v:=.func (.func 259) #[] #[]) Q9;generalize (((w.alloc (Obj.cells #[.slice a n c] 41)).alloc (Obj.cells #[.int .i64 p,.int .i64 l,.slice b m d] 163)).alloc (Obj.cells #[.int .i64 (k:Int),.int .i64 x] 165))=W at *
 refine wp_region_quiet_below Q7 Q7 ?_
 repeat (first
  | go_big_quiet_step (first | (go_at_call 116;exact D9 (B3 _ _ _ _)) | (go_at_call 259;exact Calls.regrown_of (lD _ _ _ _ _ _ _ _ _ _ h0 h8)))
  | quiet_step (first | (go_at_call 116;exact D9 (B3 _ _ _ _)) | (go_at_call 259;exact Calls.regrown_of (lD _ _ _ _ _ _ _ _ _ _ h0 h8))))
 refine wpQuiet_nil ?_;intro _ hw';obtain⟨⟨dq,xa⟩,hw''⟩:=hw';subst hw'';go_wp2
 go_ret;exact⟨rfl,hB.trans ((below_regrown W dq xa).mono hB.size)⟩
theorem pO (a b:Option Addr) (n c m d:Nat) (p l x:Int) (k:Nat) (w:World) (hz:0 < w.heap.size) (hk:k < 28) (ht:w.cell? ⟨0,k*5+3,none⟩=some (.func (.func 270) #[] #[])) (hm:m<=1152921504606846976) :
  Calls prog 174 #[.agg #[.slice a n c],.agg #[.int .i64 p,.int .i64 l,.slice b m d],.agg #[.int .i64 (k:Int),.int .i64 x]] w fun e w'=>e=.returned (.bool (B0 x 0 (m - 1)))/\L0d w w':=by
 have xb:B0 k 0 27=true:=I4 R4 R4;go_enter func174,ntmps174;go_wp2
 have hB:L0d w (((w.alloc (Obj.cells #[.slice a n c] 41)).alloc (Obj.cells #[.int .i64 p,.int .i64 l,.slice b m d] 163)).alloc (Obj.cells #[.int .i64 (k:Int),.int .i64 x] 165)):=by repeat (first | exact L3b _ _ | refine L3a ?_ Q2 _)
 obtain⟨k0,k1,k2,k3,k4,k5⟩:=fV a b n c m d p l x k w;have k6:=cell_regrown (w:=(((w.alloc (Obj.cells #[.slice a n c] 41)).alloc (Obj.cells #[.int .i64 p,.int .i64 l,.slice b m d] 163)).alloc (Obj.cells #[.int .i64 (k:Int),.int .i64 x] 165))) (a:=⟨0,k*5+3,none⟩) (v:=.func (.func 270) #[] #[]) Q9;generalize (((w.alloc (Obj.cells #[.slice a n c] 41)).alloc (Obj.cells #[.int .i64 p,.int .i64 l,.slice b m d] 163)).alloc (Obj.cells #[.int .i64 (k:Int),.int .i64 x] 165))=W at *
 refine wp_region_quiet_below Q7 Q7 ?_
 repeat (first
  | go_big_quiet_step (first | (go_at_call 116;exact D9 (B3 _ _ _ _)) | (go_at_call 270;exact Calls.regrown_of (bH _ _ _ _ _ _ _ _ _ _ hm)))
  | quiet_step (first | (go_at_call 116;exact D9 (B3 _ _ _ _)) | (go_at_call 270;exact Calls.regrown_of (bH _ _ _ _ _ _ _ _ _ _ hm))))
 refine wpQuiet_nil ?_;intro _ hw';obtain⟨⟨dq,xa⟩,hw''⟩:=hw';subst hw'';go_wp2
 go_ret;exact⟨rfl,hB.trans ((below_regrown W dq xa).mono hB.size)⟩
theorem pP (a b:Option Addr) (n c m d:Nat) (p l x:Int) (k:Nat) (w:World) (hz:0 < w.heap.size) (hk:k < 28) (ht:w.cell? ⟨0,k*5+3,none⟩=some (.func (.func 273) #[] #[])) (hm:n<=1152921504606846976) :
  Calls prog 174 #[.agg #[.slice a n c],.agg #[.int .i64 p,.int .i64 l,.slice b m d],.agg #[.int .i64 (k:Int),.int .i64 x]] w fun e w'=>e=.returned (.bool (B0 x 0 (n - 1)))/\L0d w w':=by
 have xb:B0 k 0 27=true:=I4 R4 R4;go_enter func174,ntmps174;go_wp2
 have hB:L0d w (((w.alloc (Obj.cells #[.slice a n c] 41)).alloc (Obj.cells #[.int .i64 p,.int .i64 l,.slice b m d] 163)).alloc (Obj.cells #[.int .i64 (k:Int),.int .i64 x] 165)):=by repeat (first | exact L3b _ _ | refine L3a ?_ Q2 _)
 obtain⟨k0,k1,k2,k3,k4,k5⟩:=fV a b n c m d p l x k w;have k6:=cell_regrown (w:=(((w.alloc (Obj.cells #[.slice a n c] 41)).alloc (Obj.cells #[.int .i64 p,.int .i64 l,.slice b m d] 163)).alloc (Obj.cells #[.int .i64 (k:Int),.int .i64 x] 165))) (a:=⟨0,k*5+3,none⟩) (v:=.func (.func 273) #[] #[]) Q9;generalize (((w.alloc (Obj.cells #[.slice a n c] 41)).alloc (Obj.cells #[.int .i64 p,.int .i64 l,.slice b m d] 163)).alloc (Obj.cells #[.int .i64 (k:Int),.int .i64 x] 165))=W at *
 refine wp_region_quiet_below Q7 Q7 ?_
 repeat (first
  | go_big_quiet_step (first | (go_at_call 116;exact D9 (B3 _ _ _ _)) | (go_at_call 273;exact Calls.regrown_of (fE _ _ _ _ _ _ _ _ _ _ hm)))
  | quiet_step (first | (go_at_call 116;exact D9 (B3 _ _ _ _)) | (go_at_call 273;exact Calls.regrown_of (fE _ _ _ _ _ _ _ _ _ _ hm))))
 refine wpQuiet_nil ?_;intro _ hw';obtain⟨⟨dq,xa⟩,hw''⟩:=hw';subst hw'';go_wp2
 go_ret;exact⟨rfl,hB.trans ((below_regrown W dq xa).mono hB.size)⟩
theorem pQ (a b:Option Addr) (n c m d:Nat) (p l x:Int) (k:Nat) (w:World) (hz:0 < w.heap.size) (hk:k < 28) (ht:w.cell? ⟨0,k*5+3,none⟩=some (.func (.func 276) #[] #[])) :
  Calls prog 174 #[.agg #[.slice a n c],.agg #[.int .i64 p,.int .i64 l,.slice b m d],.agg #[.int .i64 (k:Int),.int .i64 x]] w fun e w'=>e=.returned (.bool (B0 x 0 8))/\L0d w w':=by
 have xb:B0 k 0 27=true:=I4 R4 R4;go_enter func174,ntmps174;go_wp2
 have hB:L0d w (((w.alloc (Obj.cells #[.slice a n c] 41)).alloc (Obj.cells #[.int .i64 p,.int .i64 l,.slice b m d] 163)).alloc (Obj.cells #[.int .i64 (k:Int),.int .i64 x] 165)):=by repeat (first | exact L3b _ _ | refine L3a ?_ Q2 _)
 obtain⟨k0,k1,k2,k3,k4,k5⟩:=fV a b n c m d p l x k w;have k6:=cell_regrown (w:=(((w.alloc (Obj.cells #[.slice a n c] 41)).alloc (Obj.cells #[.int .i64 p,.int .i64 l,.slice b m d] 163)).alloc (Obj.cells #[.int .i64 (k:Int),.int .i64 x] 165))) (a:=⟨0,k*5+3,none⟩) (v:=.func (.func 276) #[] #[]) Q9;generalize (((w.alloc (Obj.cells #[.slice a n c] 41)).alloc (Obj.cells #[.int .i64 p,.int .i64 l,.slice b m d] 163)).alloc (Obj.cells #[.int .i64 (k:Int),.int .i64 x] 165))=W at *
 refine wp_region_quiet_below Q7 Q7 ?_
 repeat (first
  | go_big_quiet_step (first | (go_at_call 116;exact D9 (B3 _ _ _ _)) | (go_at_call 276;exact Calls.regrown_of (dA _ _ _ _ _ _ _ _ _ _)))
  | quiet_step (first | (go_at_call 116;exact D9 (B3 _ _ _ _)) | (go_at_call 276;exact Calls.regrown_of (dA _ _ _ _ _ _ _ _ _ _))))
 refine wpQuiet_nil ?_;intro _ hw';obtain⟨⟨dq,xa⟩,hw''⟩:=hw';subst hw'';go_wp2
 go_ret;exact⟨rfl,hB.trans ((below_regrown W dq xa).mono hB.size)⟩
theorem pR (a b:Option Addr) (n c m d:Nat) (p l x:Int) (k:Nat) (w:World) (hz:0 < w.heap.size) (hk:k < 28) (ht:w.cell? ⟨0,k*5+3,none⟩=some (.func (.func 280) #[] #[])) :
  Calls prog 174 #[.agg #[.slice a n c],.agg #[.int .i64 p,.int .i64 l,.slice b m d],.agg #[.int .i64 (k:Int),.int .i64 x]] w fun e w'=>e=.returned (.bool (B0 x 0 7))/\L0d w w':=by
 have xb:B0 k 0 27=true:=I4 R4 R4;go_enter func174,ntmps174;go_wp2
 have hB:L0d w (((w.alloc (Obj.cells #[.slice a n c] 41)).alloc (Obj.cells #[.int .i64 p,.int .i64 l,.slice b m d] 163)).alloc (Obj.cells #[.int .i64 (k:Int),.int .i64 x] 165)):=by repeat (first | exact L3b _ _ | refine L3a ?_ Q2 _)
 obtain⟨k0,k1,k2,k3,k4,k5⟩:=fV a b n c m d p l x k w;have k6:=cell_regrown (w:=(((w.alloc (Obj.cells #[.slice a n c] 41)).alloc (Obj.cells #[.int .i64 p,.int .i64 l,.slice b m d] 163)).alloc (Obj.cells #[.int .i64 (k:Int),.int .i64 x] 165))) (a:=⟨0,k*5+3,none⟩) (v:=.func (.func 280) #[] #[]) Q9;generalize (((w.alloc (Obj.cells #[.slice a n c] 41)).alloc (Obj.cells #[.int .i64 p,.int .i64 l,.slice b m d] 163)).alloc (Obj.cells #[.int .i64 (k:Int),.int .i64 x] 165))=W at *
 refine wp_region_quiet_below Q7 Q7 ?_
 repeat (first
  | go_big_quiet_step (first | (go_at_call 116;exact D9 (B3 _ _ _ _)) | (go_at_call 280;exact Calls.regrown_of (lC _ _ _ _ _ _ _ _ _ _)))
  | quiet_step (first | (go_at_call 116;exact D9 (B3 _ _ _ _)) | (go_at_call 280;exact Calls.regrown_of (lC _ _ _ _ _ _ _ _ _ _))))
 refine wpQuiet_nil ?_;intro _ hw';obtain⟨⟨dq,xa⟩,hw''⟩:=hw';subst hw'';go_wp2
 go_ret;exact⟨rfl,hB.trans ((below_regrown W dq xa).mono hB.size)⟩
theorem pS (a b:Option Addr) (n c m d:Nat) (p l x k:Int) (w:World) (hk:B0 k 0 27=false) :
  Calls prog 174 #[.agg #[.slice a n c],.agg #[.int .i64 p,.int .i64 l,.slice b m d],.agg #[.int .i64 k,.int .i64 x]] w fun e w'=>e=.returned (.bool false)/\L0d w w':=by
 go_enter func174,ntmps174;go_wp2
 have hB:L0d w (((w.alloc (Obj.cells #[.slice a n c] 41)).alloc (Obj.cells #[.int .i64 p,.int .i64 l,.slice b m d] 163)).alloc (Obj.cells #[.int .i64 k,.int .i64 x] 165)):=by repeat (first | exact L3b _ _ | refine L3a ?_ Q2 _)
 have k4:=cell_regrown (w:=(((w.alloc (Obj.cells #[.slice a n c] 41)).alloc (Obj.cells #[.int .i64 p,.int .i64 l,.slice b m d] 163)).alloc (Obj.cells #[.int .i64 k,.int .i64 x] 165))) (a:=⟨w.heap.size+1+1,0,none⟩) (v:=.int .i64 k) Q9;generalize (((w.alloc (Obj.cells #[.slice a n c] 41)).alloc (Obj.cells #[.int .i64 p,.int .i64 l,.slice b m d] 163)).alloc (Obj.cells #[.int .i64 k,.int .i64 x] 165))=W at *
 refine wp_region_quiet_below Q7 Q7 ?_
 repeat (first
  | go_big_quiet_step ((go_at_call 116;exact D9 (B3 _ _ _ _)))
  | quiet_step ((go_at_call 116;exact D9 (B3 _ _ _ _))))
 refine wpQuiet_nil ?_;intro _ hw';obtain⟨⟨dq,xa⟩,hw''⟩:=hw';subst hw'';go_wp2
 go_ret;exact⟨rfl,hB.trans ((below_regrown W dq xa).mono hB.size)⟩
theorem X4 {W w1:World} (hb:L0d W w1):(∀b o,b < W.heap.size->w1.cell? ⟨b,o,none⟩=W.cell? ⟨b,o,none⟩)/\(∀b o,b < W.heap.size->w1.frozen? ⟨b,o,none⟩=W.frozen? ⟨b,o,none⟩) :=
 ⟨fun b o h=>hb.cell (p:=⟨b,o,none⟩) h,fun b o h=>hb.frozen (p:=⟨b,o,none⟩) h⟩
theorem C5 {B:Nat} {w W w2:World} (h2:L0d W w2) (h1:Below B w W) (hB:B<=W.heap.size):Below B w w2:=h1.trans (h2.mono hB)
theorem uA (k:Nat) (p l:Int) (n:Nat):Y9 k p l n=(gJ p l n && !(((k:Int) == 0) && p != 0)):=by
 rw[Bool.eq_iff_iff];simp only[Y9,gJ,B0,Bool.and_eq_true,Bool.or_eq_true,decide_eq_true_eq,beq_iff_eq,Bool.not_eq_true',Bool.and_eq_false_iff,beq_eq_false_iff_ne,bne_eq_false_iff_eq];omega
theorem lH (g:PgR) (w:World) (hg:I5 w.heap.size w g) :
  Calls prog 131 #[.agg #[.slice g.a g.n g.c]] w fun e w'=>∃(at_:Int) (ok:Bool),e=.returned (.tuple #[.int .i64 at_,.bool ok])/\W8 g at_ ok/\L0d w w':=by
 have hn:=hg.1;by_cases h8:1<=g.n/\g.n<=8
 ·have xl:B0 g.n 1 8=true:=I4 R4 R4
  obtain⟨xh,xe⟩:=h8;obtain⟨ha,hb,hc⟩:=hg.2.1 R4;have HC:Hid (∀i,i < g.n->w.cell? ⟨g.b,g.o+i*3,none⟩=some (.int .i64 (g.f i).p)/\w.cell? ⟨g.b,g.o+i*3+1,none⟩=some (.int .i64 (g.f i).l) /\
   w.cell? ⟨g.b,g.o+i*3+2,none⟩=some (.slice (g.f i).a (g.f i).n (g.f i).c)):=hc
  clear hc;rw[ha];go_enter func131,ntmps131;go_wp2_with (go_at_call 116;refine (B3 _ _ _ _).mono ?_;rintro e w' ⟨rfl,rfl⟩)
  go_loopw [14] (fun i wr=>∃k:Nat,k<=g.n/\i=.int .i64 k/\(∀j,j < k->Y9 j (g.f j).p (g.f j).l (g.f j).n=true)/\L0d w wr) (fun i _=>g.n - (intOf i).toNat)
  case atStart=>exact ⟨0,L4c _,rfl,fun j hj=>by omega,P6⟩
  case round =>
   obtain⟨k,hk,rfl,xc,xa⟩:=hrel;have xd:=(show Hid _ from xc);clear xc;by_cases hlt:k < g.n
   ·obtain ⟨c0,c1,c2⟩:=HC.out k hlt
    rw[<- xa.cell (p:=⟨g.b,_,none⟩) hb] at c0 c1 c2;have xm:=xa.size;have xn:g.b < wr.heap.size:=L0a hb xm;have xi:=uA k (g.f k).p (g.f k).l (g.f k).n;have HD:=(show Hid _ from xi);clear xi
    cases hs:gJ (g.f k).p (g.f k).l (g.f k).n
    ·go_wp2_with (go_at_call 173;refine (aR _ _ _ _ _ _).mono ?_;rintro e w2 ⟨rfl,xb⟩;obtain ⟨xg,xf⟩:=X4 xb)
     go_ret2;exact⟨k,false,rfl,L4b (L4b ⟨rfl,xh,xe,k,rfl,hlt,by simp only;rw [HD.out,hs];rfl,xd.out⟩),C5 xb (by repeat (first | exact xa | refine L3c ?_ | refine Below.setCell ?_ Q1 _ | refine L3a ?_ Q1 _)) Q1⟩
    ·by_cases hk0:k=0
     ·have xj:((k:Int) == 0)=true:=beq_iff_eq.2 R4
      have HK:Hid (k=0):=hk0;clear hk0
      cases hp:(g.f k).p != 0
      ·go_wp2_with (go_at_call 173;refine (aR _ _ _ _ _ _).mono ?_;rintro e w2 ⟨rfl,xb⟩;obtain ⟨xg,xf⟩:=X4 xb)
       go_roundw
       case rel=>exact ⟨k+1,by omega,by go_num,fun j hj=>(by rw [show j=k from (by have:=HK.out;omega),HD.out,hs,hp,xj];rfl),C5 xb (by repeat (first | exact xa | refine L3c ?_ | refine Below.setCell ?_ Q1 _ | refine L3a ?_ Q1 _)) Q1⟩
       case measure=>simp [intOf];omega
      ·go_wp2_with (go_at_call 173;refine (aR _ _ _ _ _ _).mono ?_;rintro e w2 ⟨rfl,xb⟩;obtain ⟨xg,xf⟩:=X4 xb)
       go_ret2;exact⟨k,false,rfl,L4b (L4b ⟨rfl,xh,xe,k,rfl,hlt,by simp only;rw [HD.out,hs,hp,xj];rfl,xd.out⟩),C5 xb (by repeat (first | exact xa | refine L3c ?_ | refine Below.setCell ?_ Q1 _ | refine L3a ?_ Q1 _)) Q1⟩
     ·have xk:((k:Int) == 0)=false:=L2c.2 R4
      go_wp2_with (go_at_call 173;refine (aR _ _ _ _ _ _).mono ?_;rintro e w2 ⟨rfl,xb⟩;obtain ⟨xg,xf⟩:=X4 xb)
      go_roundw
      case rel=>exact ⟨k+1,by omega,by go_num,fun j hj=>by
       by_cases e:j=k
       ·subst e;rw [HD.out,hs,xk];rfl
       ·exact xd.out j R4,C5 xb (by repeat (first | exact xa | refine L3c ?_ | refine Below.setCell ?_ Q1 _ | refine L3a ?_ Q1 _)) Q1⟩
      case measure=>simp [intOf];omega
   ·go_wp2
    go_ret2;exact⟨0,true,rfl,L4a ⟨rfl,rfl,xh,xe,fun i hi=>xd.out i R4⟩,xa⟩
 ·have xl:B0 g.n 1 8=false:=Y5 R4
  go_enter func131,ntmps131;go_wp2_with (go_at_call 116;refine (B3 _ _ _ _).mono ?_;rintro e w' ⟨rfl,rfl⟩)
  go_ret2;exact⟨0,false,rfl,L4b (L4a ⟨rfl,rfl,h8⟩),P6⟩
theorem But.drewN' {S:Nat->Prop} {a w:World} (h:But S a w) (n:Nat):But S a (w.drewN n):=⟨h.os,h.tape,h.output,h.size,h.block⟩
def bQ (f:FnR) (t:Nat):Int:=if t < f.n then f.op t else -7070
def bP (f:FnR) (t:Nat):Int:=if t < f.n then f.ar t else 0
theorem sD {B:Nat} {w:World} {f:FnR} {b c:Nat} (h:U5 B w f b c):∃F,w.rowIs b 165 (c*2) F/\f.n+2<=c/\∀t,t < f.n+2->F (t*2)=.int .i64 (bQ f t)/\F (t*2+1)=.int .i64 (bP f t):=by
 rcases h.2 with ⟨h0,_⟩ | ⟨g,xc,xb,hv,_,hh,hn,_,hs,ht⟩
 ·cases h0
 ·cases hv
  have xa:∀k,k < (f.n+2)*2->xb[k]?=(J9 f++iC)[k]?:=fun k hk=>by
   rw[<- ht,List.getElem?_take,if_pos hk];simp
  have hl:(J9 f).length=f.n*2:=I1 _ _ _;refine⟨fun k=>xb.getD k (.int .i64 0),⟨xb,hh,hs,fun k hk=>?_⟩,hn,fun t htn=>?_⟩
  ·simp only [Array.getD_eq_getD_getElem?];rw [Array.getElem?_eq_getElem R4];rfl
  ·simp only [Array.getD_eq_getD_getElem?]
   rw[xa (t*2) R4,xa (t*2+1) R4];by_cases e:t < f.n
   ·rw [List.getElem?_append_left R4,List.getElem?_append_left R4]
    obtain⟨h1,h2⟩:=bZ (a:=fun j=>.int .i64 (f.op j)) (b:=fun j=>.int .i64 (f.ar j)) e;unfold J9 bQ bP;rw[h1,h2,if_pos e,if_pos e];exact⟨rfl,rfl⟩
   ·rw [List.getElem?_append_right R4,List.getElem?_append_right R4,hl]
    unfold bQ bP;rw[if_neg e,if_neg e];obtain rfl | rfl:t=f.n\/t=f.n+1:=by omega
    ·rw [show f.n*2 - f.n*2=0 by omega,show f.n*2+1 - f.n*2=1 by omega];exact ⟨rfl,rfl⟩
    ·rw [show (f.n+1)*2 - f.n*2=2 by omega,show (f.n+1)*2+1 - f.n*2=3 by omega];exact ⟨rfl,rfl⟩
theorem jE (B:Nat) (f:FnR) (b c:Nat) (w:World) (hB:B<=b) (hf:L4 B w f) (hc:U5 B w f b c) (hn16:f.n*16<=140737488351232) :
  Calls prog 94 #[.slice (some ⟨b,0,none⟩) f.n c,.slice f.a f.n f.c] w fun e w'=>e=.returned (.bool true)/\But (·=b) w w':=by
 obtain⟨F0,xc,xk,xj⟩:=sD hc;have xl:=(show Hid _ from xj);clear xj;have xq:b < w.heap.size:=xc.lt;have xh:(f.n:Int)+2<=(c:Int):=by omega
 have xm:=(I6 hc).2.2.2.1;unfold maxLen at xm;go_enter func94,ntmps94;go_wp2
 go_loopw [6,7] (fun v vi wr=>∃(i:Nat) (F:Nat->Value),i<=f.n+2/\vi=.int .i64 i/\v=.bool true/\But (·=b) w wr/\wr.rowIs b 165 (c*2) F/\∀t,i<=t->t < f.n+2->F (t*2)=.int .i64 (bQ f t)/\F (t*2+1)=.int .i64 (bP f t)) (fun _ vi _=>f.n+2 - (intOf vi).toNat)
 case atStart=>exact ⟨0,F0,by omega,rfl,rfl,But.refl _ _,xc,fun t _ ht=>xl.out t ht⟩
 case round =>
  obtain⟨i,F,hi,rfl,rfl,xb,xa,hF⟩:=hrel;have HF:=(show Hid _ from hF);clear hF;have xr:=xb.size;by_cases hlt:i < f.n+2
  ·obtain ⟨e0,e1⟩:=HF.out i (L1c _) hlt
   have xg:(i:Int) < (f.n:Int)+2:=by omega
   have b0:=xa.cell (i:=i*2) R4;have b1:=xa.cell (i:=i*2+1) R4;have xp:=xa.frozen (i*2);have xs:=xa.frozen (i*2+1);rw[e0] at b0;rw[e1] at b1;clear e0 e1;have xo:b < wr.heap.size:=by omega
   have xd:∀(W:World) (u0 u1:Value),But (·=b) w W->W.rowIs b 165 (c*2) F->(∃(i':Nat) (F':Nat->Value),i'<=f.n+2/\Value.int .i64 ((i:Int)+1)=.int .i64 i'/\But (·=b) w ((W.setCell ⟨b,i*2,none⟩ u0).setCell ⟨b,i*2+1,none⟩ u1) /\
     ((W.setCell ⟨b,i*2,none⟩ u0).setCell ⟨b,i*2+1,none⟩ u1).rowIs b 165 (c*2) F'/\∀t,i'<=t->t < f.n+2->F' (t*2)=.int .i64 (bQ f t)/\F' (t*2+1)=.int .i64 (bP f t)):=by
    intro W u0 u1 hW hWr;refine⟨i+1,_,by omega,by go_num,(hW.setCell (p:=⟨b,i*2,none⟩) (L4a rfl) _).setCell (p:=⟨b,i*2+1,none⟩) (L4a rfl) _,(hWr.set (i*2) u0).set (i*2+1) u1,fun t ht ht2=>?_⟩;simp only[if_neg (show ¬t*2=i*2 by omega),if_neg (show ¬t*2=i*2+1 by omega),if_neg (show ¬t*2+1=i*2 by omega),if_neg (show ¬t*2+1=i*2+1 by omega)];exact HF.out t R4 ht2
   have xe:=(show Hid _ from xd);clear xd;by_cases hin:i < f.n
   ·obtain ⟨ha,xt,xi⟩:=hf.2 R4
    obtain⟨s0,s1⟩:=xi i hin;have xf:¬f.b=b:=by omega
    rw[<- xb.cell (p:=⟨f.b,_,none⟩) (by show f.b < w.heap.size;omega) xf] at s0 s1;rw[show bQ f i=f.op i by simp [bQ,hin]] at b0;rw[show bP f i=f.ar i by simp [bP,hin]] at b1;have xn:f.b < wr.heap.size:=by omega
    rw[ha];clear ha xi;go_wp2_with fail;go_quiet (fail)
    go_wp2_with fail;go_roundw
    case rel =>
     obtain⟨i',F',q1,q2,q3,q4,q5⟩:=xe.out _ (.int .i64 26) (.int .i64 (-7070)) ((xb.alloc _).drewN' nq) (xa.alloc _);exact⟨i',F',q1,q2,rfl,q3,q4,q5⟩
    case measure=>simp [intOf];omega
   ·rw [show bQ f i = -7070 by simp [bQ,hin]] at b0
    rw[show bP f i=0 by simp [bP,hin]] at b1;go_wp2_with fail;go_quiet (fail)
    go_wp2_with fail;go_roundw
    case rel =>
     obtain⟨i',F',q1,q2,q3,q4,q5⟩:=xe.out _ (.int .i64 26) (.int .i64 (-7070)) ((xb.alloc _).drewN' nq) (xa.alloc _);exact⟨i',F',q1,q2,rfl,q3,q4,q5⟩
    case measure=>simp [intOf];omega
  ·have xg:¬(i:Int) < (f.n:Int)+2:=by omega
   go_wp2_with fail;go_ret;exact⟨rfl,xb⟩
theorem bM {P:Program} (w:World) {ops:Array Oper} {rest:List Oper} {o:Oper} {a:Act} {Q:Exit->Act->World->Prop} (hgd:o.guard=none) (s x:Operand) (t:TypeId)
  (ho:o.op=.call { callee:=.builtin .append,args:=#[s,x],argTypes:=#[t,t] })
  (base:Nat) (e:TypeId) (i:TypeInfo) (z:Value) (size bytes:Nat) (ht:P.underlying t=some (.slice e)) (hi:P.info? e=some i) (hz:i.zero=some z)
  (hsize:i.size=size) (hby:i.bytes=bytes) (hzs:z.cells.size=size) (hsz:0 < size) (hs:a.eval s=.slice none 0 0)
  (sa:Option Addr) (m c:Nat) (news:List Value) (hx:a.eval x=.slice sa m c) (hl:news.length=m*size) (hnone:sa=none->m=0/\c=0) (hsrc:∀ad,sa=some ad->∀j u,news[j]?=some u->w.cell? (ad.add j)=some u)
  (h1:∀u∈news,u.oneCell'=true) (h63:m<=maxLen) (hbytes:m*bytes<=140737488355328) (hbase:base<=w.heap.size)
  (h:∀v' w',w'.ownsRow base e size v' m news->w.grownBy w' none->wpList P ops Q rest (a.put o.dst v') w'):wpList P ops Q (o::rest) a w:=by
 cases sa with
 | some ad =>
  refine wpList_append_own w hgd s x t ho base e i z size bytes ht hi hz hsize hby hzs hsz (.slice none 0 0) 0 [] hs (World.ownsRow_nil _ _ _ _) ad m c news hx hl (hsrc ad rfl) h1 R4 (by simpa using hbytes) hbase fun v' w' h2 h3 _=>?_
  simp only[Nat.zero_add,List.nil_append] at h2;exact h v' w' h2 h3
 | none =>
  obtain⟨rfl,rfl⟩:=hnone rfl;obtain rfl:news=[]:=List.eq_nil_of_length_eq_zero (by simpa using hl);refine wpList_plain hgd fun _ hK=>?_
  have hr:=run_append_owned_none (P:=P) w base t o.type e i size ht hi (.slice none 0 0) 0 [] (World.ownsRow_nil _ _ _ _);unfold Oper.wp execOp;simp only[ho,resolve,invoke,builtin,Sem.run_bind,Sem.run_pure,Result.andThen_ok,List.map_toArray,List.map_cons,List.map_nil,hs,hx,hr];exact hK _ _ (h (.slice none 0 0) w (World.ownsRow_nil _ _ _ _) (World.grownBy.refl _ _))
end Go.Proofs.YtbkmgoffiigdbaaGreatDoor
