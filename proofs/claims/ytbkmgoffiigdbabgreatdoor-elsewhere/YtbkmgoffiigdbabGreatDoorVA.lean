import Derived.Test.YtbkmgoffiigdbabGreatDoorProg
import Derived.WalkKit
import Derived.WalkSpells
import Derived.Deep.Light
import Derived.Deep.OwnRows
import Derived.Deep.QuietTactic
import Derived.BigQuiet
import Derived.Deep.LoopGhost
import Derived.Lib.QuietBelow
namespace Go.Proofs.YtbkmgoffiigdbabGreatDoor
open Go.RowKit
set_option maxHeartbeats 4000000
set_option maxRecDepth 100000
theorem P0 {p:Prop} (h:p:=by repeat (first | exact Below.refl _ _ | refine Below.drew ?_ | refine Below.drewQ ?_ _ | refine Below.alloc ?_ (by first | (simp;done) | (simp;omega)) _)):p:=h
theorem P1 {p:Prop} (h:p:=by repeat (first | exact Below.refl _ _ | refine Below.drew ?_ | refine Below.alloc ?_ (by first | omega | (simp;done) | (simp;omega)) _)):p:=h
theorem P2 {p:Prop} (h:p:=by repeat (first | exact Below.refl _ _ | refine Below.drew ?_ | refine Below.alloc ?_ (by first | (simp;done) | (simp;omega)) _)):p:=h
theorem P3 {p:Prop} (h:p:=by repeat (first | exact Below.refl _ _ | refine Below.alloc ?_ (by first | (simp;done) | (simp;omega)) _)):p:=h
theorem P4 {p:Prop} (h:p:=by repeat (first | exact Below.refl _ _ | refine Below.drew ?_ | refine Below.alloc ?_ (by simp) _)):p:=h
theorem P5 {p:Prop} (h:p:=by repeat (first | exact Below.refl _ _ | refine Below.drew ?_ | refine Below.drewQ ?_ _)):p:=h
theorem P6 {p:Prop} (h:p:=by first | omega | (simp;done) | (simp;omega)):p:=h
theorem P7 {p:Prop} (h:p:=by first | (simp;done) | (simp;omega)):p:=h
theorem P8 {p:Prop} (h:p:=by first | rfl | simp [Act.eval]):p:=h
theorem P9 {p:Prop} (h:p:=by first | omega | (simp;omega)):p:=h
theorem Q0 {p:Prop} (h:p:=by unfold maxLen;omega):p:=h
theorem Q4 {p:Prop} (h:p:=by kernel_rfl):p:=h
theorem Q5 {p:Prop} (h:p:=by simp;omega):p:=h
theorem Q6 {p:Prop} (h:p:=by go_simp):p:=h
theorem Q7 {p:Prop} (h:p:=by decide):p:=h
theorem Q8 {p:Prop} (h:p:=by omega):p:=h
theorem Q9 {p:Prop} (h:p:=by simp):p:=h
def B9 (n l g:Int):Bool:=decide (l≤n) && decide (n≤g)
theorem F8 {n l g:Int} (h1:l≤n) (h2:n≤g):B9 n l g=true:=by simp [B9,h1,h2]
theorem nB {n l g:Int} (h:¬(l≤n∧n≤g)):B9 n l g=false:=by
 simp only[B9,Bool.and_eq_false_iff,decide_eq_false_iff_not];omega
theorem C2 (n l g:Int) (w:World) :
  Calls Tryz.prog 41 #[.int .i64 n,.int .i64 l,.int .i64 g] w fun e w'=>e=.returned (.bool (B9 n l g))∧w'=w:=by
 by_cases h1:l≤n
 ·by_cases h2:n≤g
  ·rw [F8 h1 h2]
   go_enter Tryz.func41,Tryz.ntmps41;go_wp2
   all_goals go_ret
   all_goals exact ⟨by simp,rfl⟩
  ·rw [nB (by omega)]
   go_enter Tryz.func41,Tryz.ntmps41;go_wp2
   all_goals go_ret
   all_goals exact ⟨by simp,rfl⟩
 ·rw [nB (by omega)]
  go_enter Tryz.func41,Tryz.ntmps41;go_wp2
  all_goals go_ret
  all_goals exact ⟨by simp,rfl⟩
theorem lB (a b:Option Addr) (n c m d:Nat) (p l x:Int) (w:World) :
  Calls Tryz.prog 170 #[.agg #[.slice a n c],.agg #[.int .i64 p,.int .i64 l,.slice b m d],.int .i64 x] w fun e w'=>e=.returned (.bool true)∧Below w.heap.size w w':=by
 go_enter Tryz.func170,Tryz.ntmps170;go_wp2
 go_ret;exact⟨rfl,by repeat (first | exact Below.refl _ _ | refine Below.drew ?_ | refine Below.alloc ?_ (by simp) _)⟩
theorem oA (a b:Option Addr) (n c m d:Nat) (p l x:Int) (w:World) :
  Calls Tryz.prog 172 #[.agg #[.slice a n c],.agg #[.int .i64 p,.int .i64 l,.slice b m d],.int .i64 x] w fun e w'=>e=.returned (.bool (x == 0))∧Below w.heap.size w w':=by
 go_enter Tryz.func172,Tryz.ntmps172;go_wp2
 go_ret;exact⟨rfl,by repeat (first | exact Below.refl _ _ | refine Below.drew ?_ | refine Below.alloc ?_ (by simp) _)⟩
theorem pZ (a b:Option Addr) (n c m d:Nat) (p l x:Int) (w:World) (h0:0≤l) (h8:l≤8) :
  Calls Tryz.prog 174 #[.agg #[.slice a n c],.agg #[.int .i64 p,.int .i64 l,.slice b m d],.int .i64 x] w fun e w'=>e=.returned (.bool (B9 x 0 (l - 1)))∧Below w.heap.size w w':=by
 go_enter Tryz.func174,Tryz.ntmps174;go_wp2_with (go_at_call 41;refine (C2 _ _ _ _).mono ?_;rintro e w' ⟨rfl,rfl⟩)
 go_ret;exact⟨rfl,by repeat (first | exact Below.refl _ _ | refine Below.drew ?_ | refine Below.alloc ?_ (by simp) _)⟩
theorem dR (a b:Option Addr) (n c m d:Nat) (p l x:Int) (w:World) (hm:m≤1152921504606846976) :
  Calls Tryz.prog 185 #[.agg #[.slice a n c],.agg #[.int .i64 p,.int .i64 l,.slice b m d],.int .i64 x] w fun e w'=>e=.returned (.bool (B9 x 0 (m - 1)))∧Below w.heap.size w w':=by
 go_enter Tryz.func185,Tryz.ntmps185;go_wp2_with (go_at_call 41;refine (C2 _ _ _ _).mono ?_;rintro e w' ⟨rfl,rfl⟩)
 go_ret;exact⟨rfl,by repeat (first | exact Below.refl _ _ | refine Below.drew ?_ | refine Below.alloc ?_ (by simp) _)⟩
theorem jM (a b:Option Addr) (n c m d:Nat) (p l x:Int) (w:World) (hm:n≤1152921504606846976) :
  Calls Tryz.prog 188 #[.agg #[.slice a n c],.agg #[.int .i64 p,.int .i64 l,.slice b m d],.int .i64 x] w fun e w'=>e=.returned (.bool (B9 x 0 (n - 1)))∧Below w.heap.size w w':=by
 go_enter Tryz.func188,Tryz.ntmps188;go_wp2_with (go_at_call 41;refine (C2 _ _ _ _).mono ?_;rintro e w' ⟨rfl,rfl⟩)
 go_ret;exact⟨rfl,by repeat (first | exact Below.refl _ _ | refine Below.drew ?_ | refine Below.alloc ?_ (by simp) _)⟩
theorem gD (a b:Option Addr) (n c m d:Nat) (p l x:Int) (w:World) :
  Calls Tryz.prog 191 #[.agg #[.slice a n c],.agg #[.int .i64 p,.int .i64 l,.slice b m d],.int .i64 x] w fun e w'=>e=.returned (.bool (B9 x 0 8))∧Below w.heap.size w w':=by
 go_enter Tryz.func191,Tryz.ntmps191;go_wp2_with (go_at_call 41;refine (C2 _ _ _ _).mono ?_;rintro e w' ⟨rfl,rfl⟩)
 go_ret;exact⟨rfl,by repeat (first | exact Below.refl _ _ | refine Below.drew ?_ | refine Below.alloc ?_ (by simp) _)⟩
theorem pY (a b:Option Addr) (n c m d:Nat) (p l x:Int) (w:World) :
  Calls Tryz.prog 195 #[.agg #[.slice a n c],.agg #[.int .i64 p,.int .i64 l,.slice b m d],.int .i64 x] w fun e w'=>e=.returned (.bool (B9 x 0 7))∧Below w.heap.size w w':=by
 go_enter Tryz.func195,Tryz.ntmps195;go_wp2_with (go_at_call 41;refine (C2 _ _ _ _).mono ?_;rintro e w' ⟨rfl,rfl⟩)
 go_ret;exact⟨rfl,by repeat (first | exact Below.refl _ _ | refine Below.drew ?_ | refine Below.alloc ?_ (by simp) _)⟩
def aG (k p l:Int) (n:Nat):Bool:=B9 n 1 60 && (B9 l 0 8 && (B9 p 0 l && (decide (0 < k) || p == 0)))
theorem a5d {k p l:Int} {n:Nat} {r:Bool} (h:((1≤n∧n≤60)∧(0≤l∧l≤8)∧(0≤p∧p≤l)∧(0 < k∨p=0))↔r=true):r=aG k p l n:=by
 rw[Bool.eq_iff_iff,← h];simp only[aG,B9,Bool.and_eq_true,Bool.or_eq_true,decide_eq_true_eq,beq_iff_eq];omega
def D3 (nf:Nat) (l:Int) (nc:Nat) (op x:Int):Bool :=
 if op=0 then true
 else if op=2∨op=3 then B9 x 0 (l - 1)
 else if op=12∨op=13 then B9 x 0 (nc - 1)
 else if op=14 then B9 x 0 (nf - 1)
 else if op=16 then B9 x 0 8
 else if op=19∨op=20 then B9 x 0 7
 else B9 op 0 27 && x == 0
theorem jE {a b:Int} (h:a=b):Ending.returned (.int .i64 a)=.returned (.int .i64 b):=by rw [h]
def J9 (op:Int):Int:=if op=4∨op=6 then 2 else if op=3∨op=5∨op=12∨op=13∨op=15∨op=20∨op=22∨op=26∨op=27 then 0 else 1
def G1 (op q:Int):Int :=
 if op=3∨op=4∨op=5∨op=13∨op=15∨op=17∨op=18∨op=19∨op=23∨op=24∨op=25∨op=26 then 1
 else if op=6∨op=7∨op=8∨op=9∨op=10∨op=11∨op=20∨op=21 then 2
 else if op=22 then 3 else if op=14 then q else 0
structure E6 where
 n:Nat
 pop:Nat→Int
 push:Nat→Int
 next:Nat→List Nat
def E6.behind (F:E6) (a:Nat) (h:Int):Int:=h - F.pop a+F.push a
def E6.Reach (F:E6) (pc:Nat) (h:Int):Prop :=
 ∀S:Nat→Int→Prop,S 0 0→(∀a b c,S a b→c∈F.next a→S c (F.behind a b))→S pc h
def E6.Fits (F:E6):Prop :=
 (∀a b,F.Reach a b→a < F.n∧F.pop a≤b∧F.behind a b≤10)∧∀a b b',F.Reach a b→F.Reach a b'→b=b'
theorem E6.reach_first (F:E6):F.Reach 0 0:=fun _ h _=>h
theorem E6.reach_next {F:E6} {a c:Nat} {b:Int} (h:F.Reach a b) (hc:c∈F.next a):F.Reach c (F.behind a b) :=
 fun S h0 hs=>hs a b c (h S h0 hs) hc
def E6.Shut (F:E6) (H:Nat→Int) (a:Nat):Prop :=
 F.pop a≤H a∧F.behind a (H a)≤10∧∀c,c∈F.next a→c < F.n∧H c=F.behind a (H a)
theorem E6.fits_of_shut {F:E6} {H:Nat→Int} (hn:0 < F.n) (h0:H 0=0) (hp:∀a,0≤F.push a) (hs:∀a,a < F.n→0≤H a→F.Shut H a):F.Fits:=by
 have key:∀a b,F.Reach a b→a < F.n∧H a=b∧0≤b:=fun a b h=>by
  refine h (fun a b=>a < F.n∧H a=b∧0≤b) ⟨hn,h0,Int.le_refl 0⟩ ?_;rintro a b c ⟨ha,hb,hz⟩ hc;obtain⟨h1,_,h3⟩:=hs a ha Q8;obtain⟨h4,h5⟩:=h3 c hc;have:=hp a;refine⟨h4,by rw [h5,hb],?_⟩;unfold E6.behind;omega
 refine⟨fun a b h=>?_,fun a b b' h h'=>?_⟩
 ·obtain ⟨ha,hb,hz⟩:=key a b h
  obtain⟨h1,h2,_⟩:=hs a ha Q8;rw[hb] at h1 h2;exact⟨ha,h1,h2⟩
 ·rw [← (key a b h).2.1,← (key a b' h').2.1]
theorem E6.not_fits_pop {F:E6} {a:Nat} {b:Int} (h:F.Reach a b) (hb:b < F.pop a∨10 < F.behind a b):¬F.Fits:=fun hf=>by
 have:=hf.1 a b h;omega
theorem E6.not_fits_past {F:E6} {a c:Nat} {b:Int} (h:F.Reach a b) (hc:c∈F.next a) (hn:F.n≤c):¬F.Fits:=fun hf=>by
 have:=(hf.1 c _ (E6.reach_next h hc)).1;omega
theorem E6.not_fits_two {F:E6} {a c:Nat} {b h':Int} (h:F.Reach a b) (hc:c∈F.next a) (h2:F.Reach c h') (hne:h'≠F.behind a b):¬F.Fits:=fun hf =>
 hne (hf.2 c _ _ h2 (E6.reach_next h hc))
def left (n:Nat) (H:Nat→Int):Nat:=((List.range n).filter fun i=>decide (H i < 0)).length
theorem eV {n:Nat} {H:Nat→Int} {c:Nat} {v:Int} (hc:c < n) (hH:H c < 0) (hv:0≤v):left n (fun i=>if i=c then v else H i)+1=left n H:=by
 induction n with
 | zero=>omega
 | succ n ih =>
  simp only[left];rw[List.range_succ,List.filter_append,List.filter_append,List.length_append,List.length_append];by_cases e:c=n
  ·subst e
   have e1:(List.range c).filter (fun i=>decide ((if i=c then v else H i) < 0))=(List.range c).filter (fun i=>decide (H i < 0)):=by
    refine List.filter_congr fun i hi=>?_
    have:i < c:=List.mem_range.1 hi;rw[if_neg Q8]
   rw[e1];simp[hH];omega
  ·have hi:=ih Q8
   simp only[left] at hi;have e2:((if n=c then v else H n) < 0)=(H n < 0):=by rw [if_neg Q8]
   simp only[List.filter_cons,List.filter_nil,e2];omega
structure FnR where
 p:Int
 l:Int
 a:Option Addr
 n:Nat
 c:Nat
 b:Nat
 o:Nat
 op:Nat→Int
 ar:Nat→Int
structure PgR where
 a:Option Addr
 n:Nat
 c:Nat
 b:Nat
 o:Nat
 f:Nat→FnR
def O0 (B:Nat) (w:World) (f:FnR):Prop :=
 f.n≤1152921504606846976∧(0 < f.n→f.a=some ⟨f.b,f.o,none⟩∧f.b < B∧∀j,j < f.n →
  w.cell? ⟨f.b,f.o+j*2,none⟩=some (.int .i64 (f.op j))∧w.cell? ⟨f.b,f.o+j*2+1,none⟩=some (.int .i64 (f.ar j)))
def M3 (B:Nat) (w:World) (g:PgR):Prop :=
 g.n≤1152921504606846976∧(0 < g.n→g.a=some ⟨g.b,g.o,none⟩∧g.b < B∧∀i,i < g.n →
  w.cell? ⟨g.b,g.o+i*3,none⟩=some (.int .i64 (g.f i).p)∧w.cell? ⟨g.b,g.o+i*3+1,none⟩=some (.int .i64 (g.f i).l) ∧
  w.cell? ⟨g.b,g.o+i*3+2,none⟩=some (.slice (g.f i).a (g.f i).n (g.f i).c))∧∀i,i < g.n→O0 B w (g.f i)
theorem O0.below {B:Nat} {w w':World} {f:FnR} (h:O0 B w f) (hb:Below B w w'):O0 B w' f :=
 ⟨h.1,fun hn=>by
  obtain⟨h1,h2,h3⟩:=h.2 hn;refine⟨h1,h2,fun j hj=>?_⟩;rw[hb.cell (p:=⟨f.b,f.o+j*2,none⟩) h2,hb.cell (p:=⟨f.b,f.o+j*2+1,none⟩) h2];exact h3 j hj⟩
theorem O0.mono {B B':Nat} {w:World} {f:FnR} (h:O0 B w f) (hb:B≤B'):O0 B' w f :=
 ⟨h.1,fun hn=>by obtain ⟨h1,h2,h3⟩:=h.2 hn;exact ⟨h1,by omega,h3⟩⟩
theorem M3.below {B:Nat} {w w':World} {g:PgR} (h:M3 B w g) (hb:Below B w w'):M3 B w' g :=
 ⟨h.1,fun hn=>by
  obtain⟨h1,h2,h3⟩:=h.2.1 hn;refine⟨h1,h2,fun i hi=>?_⟩;rw[hb.cell (p:=⟨g.b,g.o+i*3,none⟩) h2,hb.cell (p:=⟨g.b,g.o+i*3+1,none⟩) h2,hb.cell (p:=⟨g.b,g.o+i*3+2,none⟩) h2];exact h3 i hi,fun i hi=>(h.2.2 i hi).below hb⟩
theorem M3.mono {B B':Nat} {w:World} {g:PgR} (h:M3 B w g) (hb:B≤B'):M3 B' w g :=
 ⟨h.1,fun hn=>by obtain ⟨h1,h2,h3⟩:=h.2.1 hn;exact ⟨h1,by omega,h3⟩,fun i hi=>(h.2.2 i hi).mono hb⟩
structure But (S:Nat→Prop) (w w':World):Prop where
 os:w'.os=w.os
 tape:w'.tape=w.tape
 output:w'.output=w.output
 size:w.heap.size≤w'.heap.size
 block:∀k,k < w.heap.size→¬S k→w'.heap[k]?=w.heap[k]?
theorem But.refl (S:Nat→Prop) (w:World):But S w w:=⟨rfl,rfl,rfl,Nat.le_refl _,fun _ _ _=>rfl⟩
theorem But.trans {S:Nat→Prop} {a b c:World} (h:But S a b) (k:But S b c):But S a c :=
 ⟨k.os.trans h.os,k.tape.trans h.tape,k.output.trans h.output,Nat.le_trans h.size k.size,fun i hi hs=>(k.block i (Nat.lt_of_lt_of_le hi h.size) hs).trans (h.block i hi hs)⟩
theorem But.of_below {S:Nat→Prop} {w w':World} (h:Below w.heap.size w w'):But S w w':=⟨h.os,h.tape,h.output,h.size,fun k hk _=>h.block k hk⟩
theorem But.drew {S:Nat→Prop} {a w:World} (h:But S a w):But S a w.drew:=⟨h.os,h.tape,h.output,h.size,h.block⟩
theorem But.alloc {S:Nat→Prop} {a w:World} (h:But S a w) (o:Obj):But S a (w.alloc o) :=
 h.trans ⟨rfl,rfl,rfl,by simp,fun k hk _=>Below.heap_alloc _ _ _ hk⟩
theorem But.setCell {S:Nat→Prop} {a w:World} (h:But S a w) {p:Addr} (hp:S p.block∨a.heap.size≤p.block) (u:Value):But S a (w.setCell p u) :=
 ⟨h.os,h.tape,h.output,by have:=h.size;simpa [World.setCell] using this,fun k hk hs=>(Below.heap_setCell _ _ _ _ (by rcases hp with hp | hp;exact fun e=>hs (e▸hp);omega)).trans (h.block k hk hs)⟩
theorem But.cell {S:Nat→Prop} {w w':World} (h:But S w w') {p:Addr} (hp:p.block < w.heap.size) (hs:¬S p.block):w'.cell? p=w.cell? p:=World.cell?_of_block (w:=w) (h.block p.block hp hs)
theorem But.frozen {S:Nat→Prop} {w w':World} (h:But S w w') {p:Addr} (hp:p.block < w.heap.size) (hs:¬S p.block):w'.frozen? p=w.frozen? p:=World.frozen?_of_block (w:=w) (h.block p.block hp hs)
theorem But.below {S:Nat→Prop} {w w':World} (h:But S w w') {B:Nat} (hB:B≤w.heap.size) (hs:∀k,k < B→¬S k):Below B w w' :=
 ⟨h.os,h.tape,h.output,h.size,fun k hk=>h.block k (Nat.lt_of_lt_of_le hk hB) (hs k hk)⟩
def yG (n:Nat) (ok:Nat→Bool) (k:Nat):Prop:=k < n∧ok k=false∧∀j,j < k→ok j=true
theorem yG.unique {n:Nat} {ok:Nat→Bool} {k k':Nat} (h:yG n ok k) (h':yG n ok k'):k=k':=by
 rcases Nat.lt_trichotomy k k' with hl | hl | hl
 ·have:=h'.2.2 k hl;rw [h.2.1] at this;cases this
 ·exact hl
 ·have:=h.2.2 k' hl;rw [h'.2.1] at this;cases this
def aR (g:PgR) (at_:Int) (ok:Bool):Prop :=
 (ok=true∧at_=0∧1≤g.n∧g.n≤8∧∀i,i < g.n→aG i (g.f i).p (g.f i).l (g.f i).n=true) ∨
 (ok=false∧at_=0∧¬(1≤g.n∧g.n≤8)) ∨
 (ok=false∧1≤g.n∧g.n≤8∧∃k:Nat,at_=k∧yG g.n (fun i=>aG i (g.f i).p (g.f i).l (g.f i).n) k)
def D2 (pc:Nat) (op x:Int):List Nat :=
 if op=15∨op=27 then [] else if op=12 then [x.toNat] else if op=13 then [x.toNat,pc+1] else [pc+1]
def A7 (g:PgR) (f:FnR):E6 :=
 { n:=f.n,pop:=fun a=>G1 (f.op a) (g.f (f.ar a).toNat).p,push:=fun a=>J9 (f.op a),next:=fun a=>D2 a (f.op a) (f.ar a) }
def a3x (g:PgR) (f:FnR):Prop :=
 1≤f.n∧f.n≤60∧(∀i,i < g.n→0≤(g.f i).p∧(g.f i).p≤8)∧∀j,j < f.n→D3 g.n f.l f.n (f.op j) (f.ar j)=true
theorem L6 {n l g:Int} : B9 n l g=true↔l≤n∧n≤g:=by simp [B9]
theorem dD {nf nc:Nat} {l op x:Int} (h:D3 nf l nc op x=true):0≤op∧op≤27:=by
 unfold D3 at h
 repeat' split at h
 all_goals first | omega | (rw [Bool.and_eq_true,L6] at h;omega)
theorem fN {nf nc:Nat} {l op x:Int} (h:D3 nf l nc op x=true) (ho:op=12∨op=13):0≤x∧x < nc:=by
 unfold D3 at h;rw[if_neg Q8,if_neg Q8,if_pos ho,L6] at h;omega
theorem L9 {nf nc:Nat} {l op x:Int} (h:D3 nf l nc op x=true) (ho:op=14):0≤x∧x < nf:=by
 unfold D3 at h;rw[if_neg Q8,if_neg Q8,if_neg Q8,if_pos ho,L6] at h;omega
theorem M7 (op:Int):0≤J9 op∧J9 op≤2:=by unfold J9;split <;> (try split) <;> omega
theorem pF (op q:Int) (h:op=14→0≤q∧q≤8):0≤G1 op q∧G1 op q≤8:=by
 unfold G1;split
 ·omega
 ·split
  ·omega
  ·split
   ·omega
   ·split
    ·exact h ‹_›
    ·omega
theorem a3x.pop_bd {g:PgR} {f:FnR} (h:a3x g f) {a:Nat} (ha:a < f.n):0≤(A7 g f).pop a∧(A7 g f).pop a≤8:=by
 refine pF _ _ fun ho=>?_
 have:=L9 (h.2.2.2 a ha) ho;exact h.2.2.1 _ Q8
def Sp (F:E6) (H H':Nat→Int) (Q:Prop) (fr:Bool):Prop :=
 (∀a,a < F.n → -1≤H' a∧H' a≤10∧(0≤H' a→F.Reach a (H' a)))∧(∀a,0≤H a→H' a=H a) ∧
  ((fr=false∧(∀a,H' a=H a)∧Q)∨(fr=true∧left F.n H' < left F.n H))
theorem Sp.imp {F:E6} {H H':Nat→Int} {Q Q':Prop} {fr:Bool} (h:Sp F H H' Q fr) (hq:(∀a,H' a=H a)→Q→Q'):Sp F H H' Q' fr :=
 ⟨h.1,h.2.1,h.2.2.imp (fun ⟨a,b,c⟩=>⟨a,b,hq b c⟩) id⟩
theorem Sp.set {F:E6} {H H':Nat→Int} {Q Q':Prop} {fr:Bool} {c:Nat} {v:Int} (h:Sp F H H' Q fr) (hc:c < F.n) (hn:H' c < 0) (hv:0≤v) (hv':v≤10) (hr:F.Reach c v) :
  Sp F H (fun i=>if i=c then v else H' i) Q' true:=by
 refine⟨fun a ha=>?_,fun a ha=>?_,Or.inr ⟨rfl,?_⟩⟩
 ·by_cases e:a=c
  ·subst e;simp only [if_pos];exact ⟨by omega,hv',fun _=>hr⟩
  ·simp only [if_neg e];exact h.1 a ha
 ·have:=h.2.1 a ha
  have hne:a≠c:=by intro e;subst e;omega
  simp only[if_neg hne];exact this
 ·have h1:=eV hc hn hv
  have h2:left F.n H'≤left F.n H:=by
   rcases h.2.2 with ⟨_,he,_⟩ | ⟨_,hl⟩
   ·rw [show H'=H from funext he];exact Nat.le_refl _
   ·omega
  omega
theorem But.drewN {S:Nat→Prop} {a w:World} (h:But S a w) (n:Nat):But S a (w.drewN n):=⟨h.os,h.tape,h.output,h.size,h.block⟩
theorem xD (a:Option Addr) (n c:Nat) (k:Nat) (x q:Int) (w:World) (hz:0 < w.heap.size) (hk:k < 28) (hq:(q != -1)=true) (ht:w.cell? ⟨0,k*5,none⟩=some (.int .i64 q)) :
  Calls Tryz.prog 66 #[.agg #[.slice a n c],.agg #[.int .i64 (k:Int),.int .i64 x]] w fun e w'=>e=.returned (.int .i64 q)∧Below w.heap.size w w':=by
 go_enter Tryz.func66,Tryz.ntmps66;go_wp2
 go_ret;exact⟨rfl,P4⟩
theorem a0q (b o:Nat) (n c:Nat) (x:Nat) (q:Int) (w:World) (hz:0 < w.heap.size) (hb:b < w.heap.size) (hx:x < n) (ht:w.cell? ⟨0,70,none⟩=some (.int .i64 (-1)))
  (hc:w.cell? ⟨b,o+x*3,none⟩=some (.int .i64 q)) :
  Calls Tryz.prog 66 #[.agg #[.slice (some ⟨b,o,none⟩) n c],.agg #[.int .i64 14,.int .i64 (x:Int)]] w fun e w'=>e=.returned (.int .i64 q)∧Below w.heap.size w w':=by
 go_enter Tryz.func66,Tryz.ntmps66;go_wp2
 go_ret;exact⟨rfl,P4⟩
def kQ (p l:Int) (n:Nat):Bool:=B9 n 1 60 && (B9 l 0 8 && B9 p 0 l)
theorem cR (p l:Int) (b:Option Addr) (m d:Nat) (w:World) :
  Calls Tryz.prog 126 #[.agg #[.int .i64 p,.int .i64 l,.slice b m d]] w fun e w'=>e=.returned (.bool (kQ p l m))∧Below w.heap.size w w':=by
 cases h1:B9 m 1 60
 ·go_enter Tryz.func126,Tryz.ntmps126
  go_wp2_with (go_at_call 41;refine (C2 _ _ _ _).mono ?_;rintro e w' ⟨rfl,rfl⟩)
  go_ret;exact⟨by simp [kQ,h1],P4⟩
 ·cases h2:B9 l 0 8
  ·go_enter Tryz.func126,Tryz.ntmps126
   go_wp2_with (go_at_call 41;refine (C2 _ _ _ _).mono ?_;rintro e w' ⟨rfl,rfl⟩)
   go_ret;exact⟨by simp [kQ,h1,h2],P4⟩
  ·go_enter Tryz.func126,Tryz.ntmps126
   go_wp2_with (go_at_call 41;refine (C2 _ _ _ _).mono ?_;rintro e w' ⟨rfl,rfl⟩)
   go_ret;exact⟨by simp [kQ,h1,h2],P4⟩
end Go.Proofs.YtbkmgoffiigdbabGreatDoor
namespace Go.Proofs.YtbkmgoffiigdbabGreatDoor
open Go.RowKit Go.Sort
set_option maxHeartbeats 4000000
set_option maxRecDepth 100000
theorem F0 {P:Program} {f:FuncId} {args:Array Value} {w:World} {d:Nat} {os:Array Obj} {v:Value}
  (h:Calls P f args (grow (redrawn w d) os) fun e w'=>e=.returned v∧w'=grow (redrawn w d) os):Calls P f args (grow (redrawn w d) os) fun e w''=>e=.returned v∧∃p:Regrown,w''=grow (redrawn w p.d) p.os :=
 h.mono fun _ _ ⟨he,hb⟩=>⟨he,⟨⟨d,os⟩,hb⟩⟩
theorem wF (a b:Option Addr) (n c m d:Nat) (p l x:Int) (k:Nat) (w:World) (hz:0 < w.heap.size) (hk:k < 28) (ht:w.cell? ⟨0,k*5+3,none⟩=some (.func (.func 170) #[] #[])) :
  Calls Tryz.prog 127 #[.agg #[.slice a n c],.agg #[.int .i64 p,.int .i64 l,.slice b m d],.agg #[.int .i64 (k:Int),.int .i64 x]] w fun e w'=>e=.returned (.bool (true))∧Below w.heap.size w w':=by
 have hin:B9 k 0 27=true:=F8 Q8 Q8;go_enter Tryz.func127,Tryz.ntmps127;go_wp2
 have hB:Below w.heap.size w (((w.alloc (Obj.cells #[.slice a n c] 27)).alloc (Obj.cells #[.int .i64 p,.int .i64 l,.slice b m d] 68)).alloc (Obj.cells #[.int .i64 (k:Int),.int .i64 x] 62)):=by repeat (first | exact Below.refl _ _ | refine Below.alloc ?_ P7 _)
 have k0:=cell_regrown (w:=(((w.alloc (Obj.cells #[.slice a n c] 27)).alloc (Obj.cells #[.int .i64 p,.int .i64 l,.slice b m d] 68)).alloc (Obj.cells #[.int .i64 (k:Int),.int .i64 x] 62))) (a:=⟨w.heap.size,0,none⟩) (v:=.slice a n c) Q6;have k1:=cell_regrown (w:=(((w.alloc (Obj.cells #[.slice a n c] 27)).alloc (Obj.cells #[.int .i64 p,.int .i64 l,.slice b m d] 68)).alloc (Obj.cells #[.int .i64 (k:Int),.int .i64 x] 62))) (a:=⟨w.heap.size+1,0,none⟩) (v:=.int .i64 p) Q6
 have k2:=cell_regrown (w:=(((w.alloc (Obj.cells #[.slice a n c] 27)).alloc (Obj.cells #[.int .i64 p,.int .i64 l,.slice b m d] 68)).alloc (Obj.cells #[.int .i64 (k:Int),.int .i64 x] 62))) (a:=⟨w.heap.size+1,1,none⟩) (v:=.int .i64 l) Q6;have k3:=cell_regrown (w:=(((w.alloc (Obj.cells #[.slice a n c] 27)).alloc (Obj.cells #[.int .i64 p,.int .i64 l,.slice b m d] 68)).alloc (Obj.cells #[.int .i64 (k:Int),.int .i64 x] 62))) (a:=⟨w.heap.size+1,2,none⟩) (v:=.slice b m d) Q6
 have k4:=cell_regrown (w:=(((w.alloc (Obj.cells #[.slice a n c] 27)).alloc (Obj.cells #[.int .i64 p,.int .i64 l,.slice b m d] 68)).alloc (Obj.cells #[.int .i64 (k:Int),.int .i64 x] 62))) (a:=⟨w.heap.size+1+1,0,none⟩) (v:=.int .i64 k) Q6;have k5:=cell_regrown (w:=(((w.alloc (Obj.cells #[.slice a n c] 27)).alloc (Obj.cells #[.int .i64 p,.int .i64 l,.slice b m d] 68)).alloc (Obj.cells #[.int .i64 (k:Int),.int .i64 x] 62))) (a:=⟨w.heap.size+1+1,1,none⟩) (v:=.int .i64 x) Q6
 have k6:=cell_regrown (w:=(((w.alloc (Obj.cells #[.slice a n c] 27)).alloc (Obj.cells #[.int .i64 p,.int .i64 l,.slice b m d] 68)).alloc (Obj.cells #[.int .i64 (k:Int),.int .i64 x] 62))) (a:=⟨0,k*5+3,none⟩) (v:=.func (.func 170) #[] #[]) Q6;generalize (((w.alloc (Obj.cells #[.slice a n c] 27)).alloc (Obj.cells #[.int .i64 p,.int .i64 l,.slice b m d] 68)).alloc (Obj.cells #[.int .i64 (k:Int),.int .i64 x] 62))=W at *
 refine wp_region_quiet_below Q4 Q4 ?_
 repeat (first
  | go_big_quiet_step (first | (go_at_call 41;exact F0 (C2 _ _ _ _)) | (go_at_call 170;exact Calls.regrown_of (lB _ _ _ _ _ _ _ _ _ _)))
  | quiet_step (first | (go_at_call 41;exact F0 (C2 _ _ _ _)) | (go_at_call 170;exact Calls.regrown_of (lB _ _ _ _ _ _ _ _ _ _))))
 refine wpQuiet_nil ?_;intro _ hw';obtain⟨⟨dq,osq⟩,hw''⟩:=hw';subst hw'';go_wp2
 go_ret;exact⟨rfl,hB.trans ((below_regrown W dq osq).mono hB.size)⟩
theorem wG (a b:Option Addr) (n c m d:Nat) (p l x:Int) (k:Nat) (w:World) (hz:0 < w.heap.size) (hk:k < 28) (ht:w.cell? ⟨0,k*5+3,none⟩=some (.func (.func 172) #[] #[])) :
  Calls Tryz.prog 127 #[.agg #[.slice a n c],.agg #[.int .i64 p,.int .i64 l,.slice b m d],.agg #[.int .i64 (k:Int),.int .i64 x]] w fun e w'=>e=.returned (.bool (x == 0))∧Below w.heap.size w w':=by
 have hin:B9 k 0 27=true:=F8 Q8 Q8;go_enter Tryz.func127,Tryz.ntmps127;go_wp2
 have hB:Below w.heap.size w (((w.alloc (Obj.cells #[.slice a n c] 27)).alloc (Obj.cells #[.int .i64 p,.int .i64 l,.slice b m d] 68)).alloc (Obj.cells #[.int .i64 (k:Int),.int .i64 x] 62)):=by repeat (first | exact Below.refl _ _ | refine Below.alloc ?_ P7 _)
 have k0:=cell_regrown (w:=(((w.alloc (Obj.cells #[.slice a n c] 27)).alloc (Obj.cells #[.int .i64 p,.int .i64 l,.slice b m d] 68)).alloc (Obj.cells #[.int .i64 (k:Int),.int .i64 x] 62))) (a:=⟨w.heap.size,0,none⟩) (v:=.slice a n c) Q6;have k1:=cell_regrown (w:=(((w.alloc (Obj.cells #[.slice a n c] 27)).alloc (Obj.cells #[.int .i64 p,.int .i64 l,.slice b m d] 68)).alloc (Obj.cells #[.int .i64 (k:Int),.int .i64 x] 62))) (a:=⟨w.heap.size+1,0,none⟩) (v:=.int .i64 p) Q6
 have k2:=cell_regrown (w:=(((w.alloc (Obj.cells #[.slice a n c] 27)).alloc (Obj.cells #[.int .i64 p,.int .i64 l,.slice b m d] 68)).alloc (Obj.cells #[.int .i64 (k:Int),.int .i64 x] 62))) (a:=⟨w.heap.size+1,1,none⟩) (v:=.int .i64 l) Q6;have k3:=cell_regrown (w:=(((w.alloc (Obj.cells #[.slice a n c] 27)).alloc (Obj.cells #[.int .i64 p,.int .i64 l,.slice b m d] 68)).alloc (Obj.cells #[.int .i64 (k:Int),.int .i64 x] 62))) (a:=⟨w.heap.size+1,2,none⟩) (v:=.slice b m d) Q6
 have k4:=cell_regrown (w:=(((w.alloc (Obj.cells #[.slice a n c] 27)).alloc (Obj.cells #[.int .i64 p,.int .i64 l,.slice b m d] 68)).alloc (Obj.cells #[.int .i64 (k:Int),.int .i64 x] 62))) (a:=⟨w.heap.size+1+1,0,none⟩) (v:=.int .i64 k) Q6;have k5:=cell_regrown (w:=(((w.alloc (Obj.cells #[.slice a n c] 27)).alloc (Obj.cells #[.int .i64 p,.int .i64 l,.slice b m d] 68)).alloc (Obj.cells #[.int .i64 (k:Int),.int .i64 x] 62))) (a:=⟨w.heap.size+1+1,1,none⟩) (v:=.int .i64 x) Q6
 have k6:=cell_regrown (w:=(((w.alloc (Obj.cells #[.slice a n c] 27)).alloc (Obj.cells #[.int .i64 p,.int .i64 l,.slice b m d] 68)).alloc (Obj.cells #[.int .i64 (k:Int),.int .i64 x] 62))) (a:=⟨0,k*5+3,none⟩) (v:=.func (.func 172) #[] #[]) Q6;generalize (((w.alloc (Obj.cells #[.slice a n c] 27)).alloc (Obj.cells #[.int .i64 p,.int .i64 l,.slice b m d] 68)).alloc (Obj.cells #[.int .i64 (k:Int),.int .i64 x] 62))=W at *
 refine wp_region_quiet_below Q4 Q4 ?_
 repeat (first
  | go_big_quiet_step (first | (go_at_call 41;exact F0 (C2 _ _ _ _)) | (go_at_call 172;exact Calls.regrown_of (oA _ _ _ _ _ _ _ _ _ _)))
  | quiet_step (first | (go_at_call 41;exact F0 (C2 _ _ _ _)) | (go_at_call 172;exact Calls.regrown_of (oA _ _ _ _ _ _ _ _ _ _))))
 refine wpQuiet_nil ?_;intro _ hw';obtain⟨⟨dq,osq⟩,hw''⟩:=hw';subst hw'';go_wp2
 go_ret;exact⟨rfl,hB.trans ((below_regrown W dq osq).mono hB.size)⟩
theorem wH (a b:Option Addr) (n c m d:Nat) (p l x:Int) (k:Nat) (w:World) (hz:0 < w.heap.size) (hk:k < 28) (ht:w.cell? ⟨0,k*5+3,none⟩=some (.func (.func 174) #[] #[])) (h0:0≤l) (h8:l≤8) :
  Calls Tryz.prog 127 #[.agg #[.slice a n c],.agg #[.int .i64 p,.int .i64 l,.slice b m d],.agg #[.int .i64 (k:Int),.int .i64 x]] w fun e w'=>e=.returned (.bool (B9 x 0 (l - 1)))∧Below w.heap.size w w':=by
 have hin:B9 k 0 27=true:=F8 Q8 Q8;go_enter Tryz.func127,Tryz.ntmps127;go_wp2
 have hB:Below w.heap.size w (((w.alloc (Obj.cells #[.slice a n c] 27)).alloc (Obj.cells #[.int .i64 p,.int .i64 l,.slice b m d] 68)).alloc (Obj.cells #[.int .i64 (k:Int),.int .i64 x] 62)):=by repeat (first | exact Below.refl _ _ | refine Below.alloc ?_ P7 _)
 have k0:=cell_regrown (w:=(((w.alloc (Obj.cells #[.slice a n c] 27)).alloc (Obj.cells #[.int .i64 p,.int .i64 l,.slice b m d] 68)).alloc (Obj.cells #[.int .i64 (k:Int),.int .i64 x] 62))) (a:=⟨w.heap.size,0,none⟩) (v:=.slice a n c) Q6;have k1:=cell_regrown (w:=(((w.alloc (Obj.cells #[.slice a n c] 27)).alloc (Obj.cells #[.int .i64 p,.int .i64 l,.slice b m d] 68)).alloc (Obj.cells #[.int .i64 (k:Int),.int .i64 x] 62))) (a:=⟨w.heap.size+1,0,none⟩) (v:=.int .i64 p) Q6
 have k2:=cell_regrown (w:=(((w.alloc (Obj.cells #[.slice a n c] 27)).alloc (Obj.cells #[.int .i64 p,.int .i64 l,.slice b m d] 68)).alloc (Obj.cells #[.int .i64 (k:Int),.int .i64 x] 62))) (a:=⟨w.heap.size+1,1,none⟩) (v:=.int .i64 l) Q6;have k3:=cell_regrown (w:=(((w.alloc (Obj.cells #[.slice a n c] 27)).alloc (Obj.cells #[.int .i64 p,.int .i64 l,.slice b m d] 68)).alloc (Obj.cells #[.int .i64 (k:Int),.int .i64 x] 62))) (a:=⟨w.heap.size+1,2,none⟩) (v:=.slice b m d) Q6
 have k4:=cell_regrown (w:=(((w.alloc (Obj.cells #[.slice a n c] 27)).alloc (Obj.cells #[.int .i64 p,.int .i64 l,.slice b m d] 68)).alloc (Obj.cells #[.int .i64 (k:Int),.int .i64 x] 62))) (a:=⟨w.heap.size+1+1,0,none⟩) (v:=.int .i64 k) Q6;have k5:=cell_regrown (w:=(((w.alloc (Obj.cells #[.slice a n c] 27)).alloc (Obj.cells #[.int .i64 p,.int .i64 l,.slice b m d] 68)).alloc (Obj.cells #[.int .i64 (k:Int),.int .i64 x] 62))) (a:=⟨w.heap.size+1+1,1,none⟩) (v:=.int .i64 x) Q6
 have k6:=cell_regrown (w:=(((w.alloc (Obj.cells #[.slice a n c] 27)).alloc (Obj.cells #[.int .i64 p,.int .i64 l,.slice b m d] 68)).alloc (Obj.cells #[.int .i64 (k:Int),.int .i64 x] 62))) (a:=⟨0,k*5+3,none⟩) (v:=.func (.func 174) #[] #[]) Q6;generalize (((w.alloc (Obj.cells #[.slice a n c] 27)).alloc (Obj.cells #[.int .i64 p,.int .i64 l,.slice b m d] 68)).alloc (Obj.cells #[.int .i64 (k:Int),.int .i64 x] 62))=W at *
 refine wp_region_quiet_below Q4 Q4 ?_
 repeat (first
  | go_big_quiet_step (first | (go_at_call 41;exact F0 (C2 _ _ _ _)) | (go_at_call 174;exact Calls.regrown_of (pZ _ _ _ _ _ _ _ _ _ _ h0 h8)))
  | quiet_step (first | (go_at_call 41;exact F0 (C2 _ _ _ _)) | (go_at_call 174;exact Calls.regrown_of (pZ _ _ _ _ _ _ _ _ _ _ h0 h8))))
 refine wpQuiet_nil ?_;intro _ hw';obtain⟨⟨dq,osq⟩,hw''⟩:=hw';subst hw'';go_wp2
 go_ret;exact⟨rfl,hB.trans ((below_regrown W dq osq).mono hB.size)⟩
theorem wI (a b:Option Addr) (n c m d:Nat) (p l x:Int) (k:Nat) (w:World) (hz:0 < w.heap.size) (hk:k < 28) (ht:w.cell? ⟨0,k*5+3,none⟩=some (.func (.func 185) #[] #[])) (hm:m≤1152921504606846976) :
  Calls Tryz.prog 127 #[.agg #[.slice a n c],.agg #[.int .i64 p,.int .i64 l,.slice b m d],.agg #[.int .i64 (k:Int),.int .i64 x]] w fun e w'=>e=.returned (.bool (B9 x 0 (m - 1)))∧Below w.heap.size w w':=by
 have hin:B9 k 0 27=true:=F8 Q8 Q8;go_enter Tryz.func127,Tryz.ntmps127;go_wp2
 have hB:Below w.heap.size w (((w.alloc (Obj.cells #[.slice a n c] 27)).alloc (Obj.cells #[.int .i64 p,.int .i64 l,.slice b m d] 68)).alloc (Obj.cells #[.int .i64 (k:Int),.int .i64 x] 62)):=by repeat (first | exact Below.refl _ _ | refine Below.alloc ?_ P7 _)
 have k0:=cell_regrown (w:=(((w.alloc (Obj.cells #[.slice a n c] 27)).alloc (Obj.cells #[.int .i64 p,.int .i64 l,.slice b m d] 68)).alloc (Obj.cells #[.int .i64 (k:Int),.int .i64 x] 62))) (a:=⟨w.heap.size,0,none⟩) (v:=.slice a n c) Q6;have k1:=cell_regrown (w:=(((w.alloc (Obj.cells #[.slice a n c] 27)).alloc (Obj.cells #[.int .i64 p,.int .i64 l,.slice b m d] 68)).alloc (Obj.cells #[.int .i64 (k:Int),.int .i64 x] 62))) (a:=⟨w.heap.size+1,0,none⟩) (v:=.int .i64 p) Q6
 have k2:=cell_regrown (w:=(((w.alloc (Obj.cells #[.slice a n c] 27)).alloc (Obj.cells #[.int .i64 p,.int .i64 l,.slice b m d] 68)).alloc (Obj.cells #[.int .i64 (k:Int),.int .i64 x] 62))) (a:=⟨w.heap.size+1,1,none⟩) (v:=.int .i64 l) Q6;have k3:=cell_regrown (w:=(((w.alloc (Obj.cells #[.slice a n c] 27)).alloc (Obj.cells #[.int .i64 p,.int .i64 l,.slice b m d] 68)).alloc (Obj.cells #[.int .i64 (k:Int),.int .i64 x] 62))) (a:=⟨w.heap.size+1,2,none⟩) (v:=.slice b m d) Q6
 have k4:=cell_regrown (w:=(((w.alloc (Obj.cells #[.slice a n c] 27)).alloc (Obj.cells #[.int .i64 p,.int .i64 l,.slice b m d] 68)).alloc (Obj.cells #[.int .i64 (k:Int),.int .i64 x] 62))) (a:=⟨w.heap.size+1+1,0,none⟩) (v:=.int .i64 k) Q6;have k5:=cell_regrown (w:=(((w.alloc (Obj.cells #[.slice a n c] 27)).alloc (Obj.cells #[.int .i64 p,.int .i64 l,.slice b m d] 68)).alloc (Obj.cells #[.int .i64 (k:Int),.int .i64 x] 62))) (a:=⟨w.heap.size+1+1,1,none⟩) (v:=.int .i64 x) Q6
 have k6:=cell_regrown (w:=(((w.alloc (Obj.cells #[.slice a n c] 27)).alloc (Obj.cells #[.int .i64 p,.int .i64 l,.slice b m d] 68)).alloc (Obj.cells #[.int .i64 (k:Int),.int .i64 x] 62))) (a:=⟨0,k*5+3,none⟩) (v:=.func (.func 185) #[] #[]) Q6;generalize (((w.alloc (Obj.cells #[.slice a n c] 27)).alloc (Obj.cells #[.int .i64 p,.int .i64 l,.slice b m d] 68)).alloc (Obj.cells #[.int .i64 (k:Int),.int .i64 x] 62))=W at *
 refine wp_region_quiet_below Q4 Q4 ?_
 repeat (first
  | go_big_quiet_step (first | (go_at_call 41;exact F0 (C2 _ _ _ _)) | (go_at_call 185;exact Calls.regrown_of (dR _ _ _ _ _ _ _ _ _ _ hm)))
  | quiet_step (first | (go_at_call 41;exact F0 (C2 _ _ _ _)) | (go_at_call 185;exact Calls.regrown_of (dR _ _ _ _ _ _ _ _ _ _ hm))))
 refine wpQuiet_nil ?_;intro _ hw';obtain⟨⟨dq,osq⟩,hw''⟩:=hw';subst hw'';go_wp2
 go_ret;exact⟨rfl,hB.trans ((below_regrown W dq osq).mono hB.size)⟩
theorem wJ (a b:Option Addr) (n c m d:Nat) (p l x:Int) (k:Nat) (w:World) (hz:0 < w.heap.size) (hk:k < 28) (ht:w.cell? ⟨0,k*5+3,none⟩=some (.func (.func 188) #[] #[])) (hm:n≤1152921504606846976) :
  Calls Tryz.prog 127 #[.agg #[.slice a n c],.agg #[.int .i64 p,.int .i64 l,.slice b m d],.agg #[.int .i64 (k:Int),.int .i64 x]] w fun e w'=>e=.returned (.bool (B9 x 0 (n - 1)))∧Below w.heap.size w w':=by
 have hin:B9 k 0 27=true:=F8 Q8 Q8;go_enter Tryz.func127,Tryz.ntmps127;go_wp2
 have hB:Below w.heap.size w (((w.alloc (Obj.cells #[.slice a n c] 27)).alloc (Obj.cells #[.int .i64 p,.int .i64 l,.slice b m d] 68)).alloc (Obj.cells #[.int .i64 (k:Int),.int .i64 x] 62)):=by repeat (first | exact Below.refl _ _ | refine Below.alloc ?_ P7 _)
 have k0:=cell_regrown (w:=(((w.alloc (Obj.cells #[.slice a n c] 27)).alloc (Obj.cells #[.int .i64 p,.int .i64 l,.slice b m d] 68)).alloc (Obj.cells #[.int .i64 (k:Int),.int .i64 x] 62))) (a:=⟨w.heap.size,0,none⟩) (v:=.slice a n c) Q6;have k1:=cell_regrown (w:=(((w.alloc (Obj.cells #[.slice a n c] 27)).alloc (Obj.cells #[.int .i64 p,.int .i64 l,.slice b m d] 68)).alloc (Obj.cells #[.int .i64 (k:Int),.int .i64 x] 62))) (a:=⟨w.heap.size+1,0,none⟩) (v:=.int .i64 p) Q6
 have k2:=cell_regrown (w:=(((w.alloc (Obj.cells #[.slice a n c] 27)).alloc (Obj.cells #[.int .i64 p,.int .i64 l,.slice b m d] 68)).alloc (Obj.cells #[.int .i64 (k:Int),.int .i64 x] 62))) (a:=⟨w.heap.size+1,1,none⟩) (v:=.int .i64 l) Q6;have k3:=cell_regrown (w:=(((w.alloc (Obj.cells #[.slice a n c] 27)).alloc (Obj.cells #[.int .i64 p,.int .i64 l,.slice b m d] 68)).alloc (Obj.cells #[.int .i64 (k:Int),.int .i64 x] 62))) (a:=⟨w.heap.size+1,2,none⟩) (v:=.slice b m d) Q6
 have k4:=cell_regrown (w:=(((w.alloc (Obj.cells #[.slice a n c] 27)).alloc (Obj.cells #[.int .i64 p,.int .i64 l,.slice b m d] 68)).alloc (Obj.cells #[.int .i64 (k:Int),.int .i64 x] 62))) (a:=⟨w.heap.size+1+1,0,none⟩) (v:=.int .i64 k) Q6;have k5:=cell_regrown (w:=(((w.alloc (Obj.cells #[.slice a n c] 27)).alloc (Obj.cells #[.int .i64 p,.int .i64 l,.slice b m d] 68)).alloc (Obj.cells #[.int .i64 (k:Int),.int .i64 x] 62))) (a:=⟨w.heap.size+1+1,1,none⟩) (v:=.int .i64 x) Q6
 have k6:=cell_regrown (w:=(((w.alloc (Obj.cells #[.slice a n c] 27)).alloc (Obj.cells #[.int .i64 p,.int .i64 l,.slice b m d] 68)).alloc (Obj.cells #[.int .i64 (k:Int),.int .i64 x] 62))) (a:=⟨0,k*5+3,none⟩) (v:=.func (.func 188) #[] #[]) Q6;generalize (((w.alloc (Obj.cells #[.slice a n c] 27)).alloc (Obj.cells #[.int .i64 p,.int .i64 l,.slice b m d] 68)).alloc (Obj.cells #[.int .i64 (k:Int),.int .i64 x] 62))=W at *
 refine wp_region_quiet_below Q4 Q4 ?_
 repeat (first
  | go_big_quiet_step (first | (go_at_call 41;exact F0 (C2 _ _ _ _)) | (go_at_call 188;exact Calls.regrown_of (jM _ _ _ _ _ _ _ _ _ _ hm)))
  | quiet_step (first | (go_at_call 41;exact F0 (C2 _ _ _ _)) | (go_at_call 188;exact Calls.regrown_of (jM _ _ _ _ _ _ _ _ _ _ hm))))
 refine wpQuiet_nil ?_;intro _ hw';obtain⟨⟨dq,osq⟩,hw''⟩:=hw';subst hw'';go_wp2
 go_ret;exact⟨rfl,hB.trans ((below_regrown W dq osq).mono hB.size)⟩
theorem wK (a b:Option Addr) (n c m d:Nat) (p l x:Int) (k:Nat) (w:World) (hz:0 < w.heap.size) (hk:k < 28) (ht:w.cell? ⟨0,k*5+3,none⟩=some (.func (.func 191) #[] #[])) :
  Calls Tryz.prog 127 #[.agg #[.slice a n c],.agg #[.int .i64 p,.int .i64 l,.slice b m d],.agg #[.int .i64 (k:Int),.int .i64 x]] w fun e w'=>e=.returned (.bool (B9 x 0 8))∧Below w.heap.size w w':=by
 have hin:B9 k 0 27=true:=F8 Q8 Q8;go_enter Tryz.func127,Tryz.ntmps127;go_wp2
 have hB:Below w.heap.size w (((w.alloc (Obj.cells #[.slice a n c] 27)).alloc (Obj.cells #[.int .i64 p,.int .i64 l,.slice b m d] 68)).alloc (Obj.cells #[.int .i64 (k:Int),.int .i64 x] 62)):=by repeat (first | exact Below.refl _ _ | refine Below.alloc ?_ P7 _)
 have k0:=cell_regrown (w:=(((w.alloc (Obj.cells #[.slice a n c] 27)).alloc (Obj.cells #[.int .i64 p,.int .i64 l,.slice b m d] 68)).alloc (Obj.cells #[.int .i64 (k:Int),.int .i64 x] 62))) (a:=⟨w.heap.size,0,none⟩) (v:=.slice a n c) Q6;have k1:=cell_regrown (w:=(((w.alloc (Obj.cells #[.slice a n c] 27)).alloc (Obj.cells #[.int .i64 p,.int .i64 l,.slice b m d] 68)).alloc (Obj.cells #[.int .i64 (k:Int),.int .i64 x] 62))) (a:=⟨w.heap.size+1,0,none⟩) (v:=.int .i64 p) Q6
 have k2:=cell_regrown (w:=(((w.alloc (Obj.cells #[.slice a n c] 27)).alloc (Obj.cells #[.int .i64 p,.int .i64 l,.slice b m d] 68)).alloc (Obj.cells #[.int .i64 (k:Int),.int .i64 x] 62))) (a:=⟨w.heap.size+1,1,none⟩) (v:=.int .i64 l) Q6;have k3:=cell_regrown (w:=(((w.alloc (Obj.cells #[.slice a n c] 27)).alloc (Obj.cells #[.int .i64 p,.int .i64 l,.slice b m d] 68)).alloc (Obj.cells #[.int .i64 (k:Int),.int .i64 x] 62))) (a:=⟨w.heap.size+1,2,none⟩) (v:=.slice b m d) Q6
 have k4:=cell_regrown (w:=(((w.alloc (Obj.cells #[.slice a n c] 27)).alloc (Obj.cells #[.int .i64 p,.int .i64 l,.slice b m d] 68)).alloc (Obj.cells #[.int .i64 (k:Int),.int .i64 x] 62))) (a:=⟨w.heap.size+1+1,0,none⟩) (v:=.int .i64 k) Q6;have k5:=cell_regrown (w:=(((w.alloc (Obj.cells #[.slice a n c] 27)).alloc (Obj.cells #[.int .i64 p,.int .i64 l,.slice b m d] 68)).alloc (Obj.cells #[.int .i64 (k:Int),.int .i64 x] 62))) (a:=⟨w.heap.size+1+1,1,none⟩) (v:=.int .i64 x) Q6
 have k6:=cell_regrown (w:=(((w.alloc (Obj.cells #[.slice a n c] 27)).alloc (Obj.cells #[.int .i64 p,.int .i64 l,.slice b m d] 68)).alloc (Obj.cells #[.int .i64 (k:Int),.int .i64 x] 62))) (a:=⟨0,k*5+3,none⟩) (v:=.func (.func 191) #[] #[]) Q6;generalize (((w.alloc (Obj.cells #[.slice a n c] 27)).alloc (Obj.cells #[.int .i64 p,.int .i64 l,.slice b m d] 68)).alloc (Obj.cells #[.int .i64 (k:Int),.int .i64 x] 62))=W at *
 refine wp_region_quiet_below Q4 Q4 ?_
 repeat (first
  | go_big_quiet_step (first | (go_at_call 41;exact F0 (C2 _ _ _ _)) | (go_at_call 191;exact Calls.regrown_of (gD _ _ _ _ _ _ _ _ _ _)))
  | quiet_step (first | (go_at_call 41;exact F0 (C2 _ _ _ _)) | (go_at_call 191;exact Calls.regrown_of (gD _ _ _ _ _ _ _ _ _ _))))
 refine wpQuiet_nil ?_;intro _ hw';obtain⟨⟨dq,osq⟩,hw''⟩:=hw';subst hw'';go_wp2
 go_ret;exact⟨rfl,hB.trans ((below_regrown W dq osq).mono hB.size)⟩
theorem wL (a b:Option Addr) (n c m d:Nat) (p l x:Int) (k:Nat) (w:World) (hz:0 < w.heap.size) (hk:k < 28) (ht:w.cell? ⟨0,k*5+3,none⟩=some (.func (.func 195) #[] #[])) :
  Calls Tryz.prog 127 #[.agg #[.slice a n c],.agg #[.int .i64 p,.int .i64 l,.slice b m d],.agg #[.int .i64 (k:Int),.int .i64 x]] w fun e w'=>e=.returned (.bool (B9 x 0 7))∧Below w.heap.size w w':=by
 have hin:B9 k 0 27=true:=F8 Q8 Q8;go_enter Tryz.func127,Tryz.ntmps127;go_wp2
 have hB:Below w.heap.size w (((w.alloc (Obj.cells #[.slice a n c] 27)).alloc (Obj.cells #[.int .i64 p,.int .i64 l,.slice b m d] 68)).alloc (Obj.cells #[.int .i64 (k:Int),.int .i64 x] 62)):=by repeat (first | exact Below.refl _ _ | refine Below.alloc ?_ P7 _)
 have k0:=cell_regrown (w:=(((w.alloc (Obj.cells #[.slice a n c] 27)).alloc (Obj.cells #[.int .i64 p,.int .i64 l,.slice b m d] 68)).alloc (Obj.cells #[.int .i64 (k:Int),.int .i64 x] 62))) (a:=⟨w.heap.size,0,none⟩) (v:=.slice a n c) Q6;have k1:=cell_regrown (w:=(((w.alloc (Obj.cells #[.slice a n c] 27)).alloc (Obj.cells #[.int .i64 p,.int .i64 l,.slice b m d] 68)).alloc (Obj.cells #[.int .i64 (k:Int),.int .i64 x] 62))) (a:=⟨w.heap.size+1,0,none⟩) (v:=.int .i64 p) Q6
 have k2:=cell_regrown (w:=(((w.alloc (Obj.cells #[.slice a n c] 27)).alloc (Obj.cells #[.int .i64 p,.int .i64 l,.slice b m d] 68)).alloc (Obj.cells #[.int .i64 (k:Int),.int .i64 x] 62))) (a:=⟨w.heap.size+1,1,none⟩) (v:=.int .i64 l) Q6;have k3:=cell_regrown (w:=(((w.alloc (Obj.cells #[.slice a n c] 27)).alloc (Obj.cells #[.int .i64 p,.int .i64 l,.slice b m d] 68)).alloc (Obj.cells #[.int .i64 (k:Int),.int .i64 x] 62))) (a:=⟨w.heap.size+1,2,none⟩) (v:=.slice b m d) Q6
 have k4:=cell_regrown (w:=(((w.alloc (Obj.cells #[.slice a n c] 27)).alloc (Obj.cells #[.int .i64 p,.int .i64 l,.slice b m d] 68)).alloc (Obj.cells #[.int .i64 (k:Int),.int .i64 x] 62))) (a:=⟨w.heap.size+1+1,0,none⟩) (v:=.int .i64 k) Q6;have k5:=cell_regrown (w:=(((w.alloc (Obj.cells #[.slice a n c] 27)).alloc (Obj.cells #[.int .i64 p,.int .i64 l,.slice b m d] 68)).alloc (Obj.cells #[.int .i64 (k:Int),.int .i64 x] 62))) (a:=⟨w.heap.size+1+1,1,none⟩) (v:=.int .i64 x) Q6
 have k6:=cell_regrown (w:=(((w.alloc (Obj.cells #[.slice a n c] 27)).alloc (Obj.cells #[.int .i64 p,.int .i64 l,.slice b m d] 68)).alloc (Obj.cells #[.int .i64 (k:Int),.int .i64 x] 62))) (a:=⟨0,k*5+3,none⟩) (v:=.func (.func 195) #[] #[]) Q6;generalize (((w.alloc (Obj.cells #[.slice a n c] 27)).alloc (Obj.cells #[.int .i64 p,.int .i64 l,.slice b m d] 68)).alloc (Obj.cells #[.int .i64 (k:Int),.int .i64 x] 62))=W at *
 refine wp_region_quiet_below Q4 Q4 ?_
 repeat (first
  | go_big_quiet_step (first | (go_at_call 41;exact F0 (C2 _ _ _ _)) | (go_at_call 195;exact Calls.regrown_of (pY _ _ _ _ _ _ _ _ _ _)))
  | quiet_step (first | (go_at_call 41;exact F0 (C2 _ _ _ _)) | (go_at_call 195;exact Calls.regrown_of (pY _ _ _ _ _ _ _ _ _ _))))
 refine wpQuiet_nil ?_;intro _ hw';obtain⟨⟨dq,osq⟩,hw''⟩:=hw';subst hw'';go_wp2
 go_ret;exact⟨rfl,hB.trans ((below_regrown W dq osq).mono hB.size)⟩
theorem wM (a b:Option Addr) (n c m d:Nat) (p l x k:Int) (w:World) (hk:B9 k 0 27=false) :
  Calls Tryz.prog 127 #[.agg #[.slice a n c],.agg #[.int .i64 p,.int .i64 l,.slice b m d],.agg #[.int .i64 k,.int .i64 x]] w fun e w'=>e=.returned (.bool false)∧Below w.heap.size w w':=by
 go_enter Tryz.func127,Tryz.ntmps127;go_wp2
 have hB:Below w.heap.size w (((w.alloc (Obj.cells #[.slice a n c] 27)).alloc (Obj.cells #[.int .i64 p,.int .i64 l,.slice b m d] 68)).alloc (Obj.cells #[.int .i64 k,.int .i64 x] 62)):=by repeat (first | exact Below.refl _ _ | refine Below.alloc ?_ P7 _)
 have k4:=cell_regrown (w:=(((w.alloc (Obj.cells #[.slice a n c] 27)).alloc (Obj.cells #[.int .i64 p,.int .i64 l,.slice b m d] 68)).alloc (Obj.cells #[.int .i64 k,.int .i64 x] 62))) (a:=⟨w.heap.size+1+1,0,none⟩) (v:=.int .i64 k) Q6;generalize (((w.alloc (Obj.cells #[.slice a n c] 27)).alloc (Obj.cells #[.int .i64 p,.int .i64 l,.slice b m d] 68)).alloc (Obj.cells #[.int .i64 k,.int .i64 x] 62))=W at *
 refine wp_region_quiet_below Q4 Q4 ?_
 repeat (first
  | go_big_quiet_step ((go_at_call 41;exact F0 (C2 _ _ _ _)))
  | quiet_step ((go_at_call 41;exact F0 (C2 _ _ _ _))))
 refine wpQuiet_nil ?_;intro _ hw';obtain⟨⟨dq,osq⟩,hw''⟩:=hw';subst hw'';go_wp2
 go_ret;exact⟨rfl,hB.trans ((below_regrown W dq osq).mono hB.size)⟩
end Go.Proofs.YtbkmgoffiigdbabGreatDoor
namespace Go.Proofs.YtbkmgoffiigdbabGreatDoor
open Go.RowKit
set_option maxHeartbeats 4000000
set_option maxRecDepth 100000
theorem W9 {W w1:World} (hb:Below W.heap.size W w1):(∀b o,b < W.heap.size→w1.cell? ⟨b,o,none⟩=W.cell? ⟨b,o,none⟩)∧(∀b o,b < W.heap.size→w1.frozen? ⟨b,o,none⟩=W.frozen? ⟨b,o,none⟩) :=
 ⟨fun b o h=>hb.cell (p:=⟨b,o,none⟩) h,fun b o h=>hb.frozen (p:=⟨b,o,none⟩) h⟩
theorem W4 {B:Nat} {w W w2:World} (h2:Below W.heap.size W w2) (h1:Below B w W) (hB:B≤W.heap.size):Below B w w2:=h1.trans (h2.mono hB)
theorem a0G (k:Nat) (p l:Int) (n:Nat):aG k p l n=(kQ p l n && !(((k:Int) == 0) && p != 0)):=by
 rw[Bool.eq_iff_iff];simp only[aG,kQ,B9,Bool.and_eq_true,Bool.or_eq_true,decide_eq_true_eq,beq_iff_eq,Bool.not_eq_true',Bool.and_eq_false_iff,beq_eq_false_iff_ne,bne_eq_false_iff_eq];omega
theorem qF (g:PgR) (w:World) (hg:M3 w.heap.size w g) :
  Calls Tryz.prog 93 #[.agg #[.slice g.a g.n g.c]] w fun e w'=>∃(at_:Int) (ok:Bool),e=.returned (.tuple #[.int .i64 at_,.bool ok])∧aR g at_ ok∧Below w.heap.size w w':=by
 have hn:=hg.1;by_cases h8:1≤g.n∧g.n≤8
 ·have hin:B9 g.n 1 8=true:=F8 Q8 Q8
  obtain⟨h81,h82⟩:=h8;obtain⟨ha,hb,hc⟩:=hg.2.1 Q8;have HC:Hid (∀i,i < g.n→w.cell? ⟨g.b,g.o+i*3,none⟩=some (.int .i64 (g.f i).p)∧w.cell? ⟨g.b,g.o+i*3+1,none⟩=some (.int .i64 (g.f i).l) ∧
   w.cell? ⟨g.b,g.o+i*3+2,none⟩=some (.slice (g.f i).a (g.f i).n (g.f i).c)):=hc
  clear hc;rw[ha];go_enter Tryz.func93,Tryz.ntmps93;go_wp2_with (go_at_call 41;refine (C2 _ _ _ _).mono ?_;rintro e w' ⟨rfl,rfl⟩)
  go_loopw [14] (fun i wr=>∃k:Nat,k≤g.n∧i=.int .i64 k∧(∀j,j < k→aG j (g.f j).p (g.f j).l (g.f j).n=true)∧Below w.heap.size w wr) (fun i _=>g.n - (intOf i).toNat)
  case atStart=>exact ⟨0,Nat.zero_le _,rfl,fun j hj=>by omega,P1⟩
  case round =>
   obtain⟨k,hk,rfl,hok0,hbel⟩:=hrel;have HOK:=(show Hid _ from hok0);clear hok0;by_cases hlt:k < g.n
   ·obtain ⟨c0,c1,c2⟩:=HC.out k hlt
    rw[← hbel.cell (p:=⟨g.b,_,none⟩) hb] at c0 c1 c2;have hsz:=hbel.size;have hbw:g.b < wr.heap.size:=Nat.lt_of_lt_of_le hb hsz;have hsd:=a0G k (g.f k).p (g.f k).l (g.f k).n;have HD:=(show Hid _ from hsd);clear hsd
    cases hs:kQ (g.f k).p (g.f k).l (g.f k).n
    ·go_wp2_with (go_at_call 126;refine (cR _ _ _ _ _ _).mono ?_;rintro e w2 ⟨rfl,hb2⟩;obtain ⟨hcc,hff⟩:=W9 hb2)
     go_ret2;exact⟨k,false,rfl,Or.inr (Or.inr ⟨rfl,h81,h82,k,rfl,hlt,by simp only;rw [HD.out,hs];rfl,HOK.out⟩),W4 hb2 (by repeat (first | exact hbel | refine Below.drew ?_ | refine Below.setCell ?_ P6 _ | refine Below.alloc ?_ P6 _)) P6⟩
    ·by_cases hk0:k=0
     ·have hkt:((k:Int) == 0)=true:=beq_iff_eq.2 Q8
      have HK:Hid (k=0):=hk0;clear hk0
      cases hp:(g.f k).p != 0
      ·go_wp2_with (go_at_call 126;refine (cR _ _ _ _ _ _).mono ?_;rintro e w2 ⟨rfl,hb2⟩;obtain ⟨hcc,hff⟩:=W9 hb2)
       go_roundw
       case rel=>exact ⟨k+1,by omega,by go_num,fun j hj=>(by rw [show j=k from (by have:=HK.out;omega),HD.out,hs,hp,hkt];rfl),W4 hb2 (by repeat (first | exact hbel | refine Below.drew ?_ | refine Below.setCell ?_ P6 _ | refine Below.alloc ?_ P6 _)) P6⟩
       case measure=>simp [intOf];omega
      ·go_wp2_with (go_at_call 126;refine (cR _ _ _ _ _ _).mono ?_;rintro e w2 ⟨rfl,hb2⟩;obtain ⟨hcc,hff⟩:=W9 hb2)
       go_ret2;exact⟨k,false,rfl,Or.inr (Or.inr ⟨rfl,h81,h82,k,rfl,hlt,by simp only;rw [HD.out,hs,hp,hkt];rfl,HOK.out⟩),W4 hb2 (by repeat (first | exact hbel | refine Below.drew ?_ | refine Below.setCell ?_ P6 _ | refine Below.alloc ?_ P6 _)) P6⟩
     ·have hkf:((k:Int) == 0)=false:=beq_eq_false_iff_ne.2 Q8
      go_wp2_with (go_at_call 126;refine (cR _ _ _ _ _ _).mono ?_;rintro e w2 ⟨rfl,hb2⟩;obtain ⟨hcc,hff⟩:=W9 hb2)
      go_roundw
      case rel=>exact ⟨k+1,by omega,by go_num,fun j hj=>by
       by_cases e:j=k
       ·subst e;rw [HD.out,hs,hkf];rfl
       ·exact HOK.out j Q8,W4 hb2 (by repeat (first | exact hbel | refine Below.drew ?_ | refine Below.setCell ?_ P6 _ | refine Below.alloc ?_ P6 _)) P6⟩
      case measure=>simp [intOf];omega
   ·go_wp2
    go_ret2;exact⟨0,true,rfl,Or.inl ⟨rfl,rfl,h81,h82,fun i hi=>HOK.out i Q8⟩,hbel⟩
 ·have hin:B9 g.n 1 8=false:=nB Q8
  go_enter Tryz.func93,Tryz.ntmps93;go_wp2_with (go_at_call 41;refine (C2 _ _ _ _).mono ?_;rintro e w' ⟨rfl,rfl⟩)
  go_ret2;exact⟨0,false,rfl,Or.inr (Or.inl ⟨rfl,rfl,h8⟩),P1⟩
theorem a6o:(Tryz.prog.info? 3).map (fun i=>(i.zero,i.size,i.bytes))=some (some (.int .i64 0),1,8):=by kernel_rfl
def fP (T:List Nat):List Value:=T.map fun t:Nat=>.int .i64 (t:Int)
structure K3 (w:World) (g:PgR) (f:FnR) (wb hb base:Nat) (H:Nat→Int) (T:List Nat) (tv:Value):Prop where
 ne:wb≠hb
 ltw:wb < base
 lth:hb < base
 size:base≤w.heap.size
 c0:w.cell? ⟨wb,0,none⟩=some (.slice g.a g.n g.c)
 c1:w.cell? ⟨wb,1,none⟩=some (.slice f.a f.n f.c)
 c2:w.cell? ⟨wb,2,none⟩=some (.slice (some ⟨hb,0,none⟩) f.n f.n)
 c3:w.cell? ⟨wb,3,none⟩=some tv
 fz:w.frozen? ⟨wb,3,none⟩=false
 row:w.rowIs hb 3 f.n (fun i=>.int .i64 (H i))
 own:w.ownsRow base 3 1 tv T.length (fP T)
def yN (wb hb:Nat) (tv:Value) (k:Nat):Prop:=k=wb∨k=hb∨tv.ownBlock=some k
theorem K3.but {w w':World} {g:PgR} {f:FnR} {wb hb base:Nat} {H:Nat→Int} {T:List Nat} {tv:Value} (h:K3 w g f wb hb base H T tv) (hb':Below w.heap.size w w'):K3 w' g f wb hb base H T tv:=by
 have hw:wb < w.heap.size:=Nat.lt_of_lt_of_le h.ltw h.size;have hh:hb < w.heap.size:=Nat.lt_of_lt_of_le h.lth h.size;refine⟨h.ne,h.ltw,h.lth,Nat.le_trans h.size hb'.size,?_,?_,?_,?_,?_,h.row.of_block (hb'.block hb hh),?_⟩
 ·rw [hb'.cell hw];exact h.c0
 ·rw [hb'.cell hw];exact h.c1
 ·rw [hb'.cell hw];exact h.c2
 ·rw [hb'.cell hw];exact h.c3
 ·rw [hb'.frozen hw];exact h.fz
 ·refine h.own.kept (row:=none) ⟨hb'.os,hb'.tape,hb'.output,hb'.size,fun k hk _=>hb'.block k hk⟩ ?_
  cases hv:tv.ownBlock with
  | none=>exact Or.inl rfl
  | some k=>exact Or.inr Q9
def vJ (n:Nat) (H:Nat→Int) (T:List Nat) (pc:Nat) (height:Int) (H':Nat→Int) (T':List Nat) (ok:Bool):Prop :=
 (ok=false∧n≤pc)∨(ok=false∧pc < n∧H pc ≠ -1∧H pc≠height) ∨
 (ok=true∧pc < n∧H pc ≠ -1∧H pc=height∧H'=H∧T'=T) ∨
 (ok=true∧pc < n∧H pc = -1∧H'=(fun i=>if i=pc then height else H i)∧T'=T++[pc])
def yD (g:PgR) (f:FnR) (wb hb base:Nat) (H:Nat→Int) (T:List Nat) (tv:Value) (pc:Nat) (height:Int) (w:World) (e:Ending) (w':World):Prop :=
 ∃H' T' tv' ok,e=.returned (.bool ok)∧K3 w' g f wb hb base H' T' tv'∧vJ f.n H T pc height H' T' ok∧But (yN wb hb tv) w w'
theorem qI {g:PgR} {f:FnR} {wb hb base:Nat} {H:Nat→Int} {T:List Nat} {tv:Value} {pc:Nat} {height:Int} {w:World} {e:Ending} {w':World} (H':Nat→Int) (T':List Nat) (tv':Value) (ok:Bool)
  (he:e=.returned (.bool ok)) (hw:K3 w' g f wb hb base H' T' tv') (hs:vJ f.n H T pc height H' T' ok) (hb':But (yN wb hb tv) w w'):yD g f wb hb base H T tv pc height w e w':=⟨H',T',tv',ok,he,hw,hs,hb'⟩
theorem cC (g:PgR) (f:FnR) (wb hb base:Nat) (H:Nat→Int) (T:List Nat) (tv:Value) (pc:Nat) (height:Int) (w:World) (hw:K3 w g f wb hb base H T tv) (hT:T.length≤60) :
  Calls Tryz.prog 146 #[.pointer (some ⟨wb,0,none⟩),.int .i64 (pc:Int),.int .i64 height] w fun e w'=>yD g f wb hb base H T tv pc height w e w':=by
 have c1:=hw.c1;have c2:=hw.c2;have c3:=hw.c3;have fz:=hw.fz;have hww:wb < w.heap.size:=Nat.lt_of_lt_of_le hw.ltw hw.size;have hhw:hb < w.heap.size:=Nat.lt_of_lt_of_le hw.lth hw.size;by_cases hlt:pc < f.n
 ·have kh:=hw.row.cell hlt
  have kf:=hw.row.frozen pc;by_cases hm:H pc = -1
  ·have hmb:(H pc == -1)=true:=beq_iff_eq.2 hm
   have HM:=(show Hid _ from hm);clear hm;obtain⟨i0,hi,hz0,hz1,hz2⟩:=info_parts a6o;have hne:=hw.ne;go_enter Tryz.func146,Tryz.ntmps146;go_wp2_with (at_builtin;refine wpList_append_own _ rfl (.tmp 33) (.tmp 35) 22 rfl base 3 i0 (.int .i64 0) 1 8 Tryz.underlying22 hi hz0 hz1 hz2 rfl Q7 tv T.length (fP T) rfl ((ownsRow_setCell_below hw.own hw.lth _).alloc _) ⟨w.heap.size,0,none⟩ 1 1 [.int .i64 (pc:Int)] rfl rfl ?c1 ?c2 ?c3 ?c4 ?c5 ?_)
   case c1 =>
    intro j u hj
    match j,hj with
    | 0,hj=>simp at hj;subst hj;simp [Addr.add];go_simp
   case c2=>intro u hu;simp at hu;subst hu;rfl
   case c3=>unfold maxLen;omega
   case c4=>omega
   case c5=>have:=hw.size;simp;omega
   ·intro v' w1 hown' hgrow _
    obtain⟨gb,cap,hgv,hgb⟩:∃gb cap,v'=.slice (some ⟨gb,0,none⟩) (T.length+1) cap∧base≤gb:=by
     rcases hown'.2 with ⟨_,h0⟩ | ⟨gb,cap,_,hv,hgb,_⟩
     ·omega
     ·exact ⟨gb,cap,hv,hgb⟩
    subst hgv;have hwne:∀k,k < base→some k≠tv.ownBlock:=fun k hk e=>by have:=(hw.own.lt k e.symm).1;omega
    have d2:w1.cell? ⟨wb,2,none⟩=some (.slice (some ⟨hb,0,none⟩) f.n f.n):=hgrow.cell Q6 (hwne wb hw.ltw);have d3:w1.cell? ⟨wb,3,none⟩=some tv:=hgrow.cell Q6 (hwne wb hw.ltw);have d4:w1.cell? ⟨hb,pc,none⟩=some (.int .i64 height):=hgrow.cell Q6 (hwne hb hw.lth);have dz:w1.frozen? ⟨wb,3,none⟩=false:=by
     rw[World.frozen?_of_block (w':=w1) (hgrow.block wb Q5 (hwne wb hw.ltw))];go_simp
    have d0:w1.cell? ⟨wb,0,none⟩=some (.slice g.a g.n g.c):=hgrow.cell (by have:=hw.c0;go_simp) (hwne wb hw.ltw);have d1:w1.cell? ⟨wb,1,none⟩=some (.slice f.a f.n f.c):=hgrow.cell Q6 (hwne wb hw.ltw);have hrow1:w1.rowIs hb 3 f.n (fun i=>.int .i64 (if i=pc then height else H i)) :=
     (((hw.row.set pc (.int .i64 height)).alloc (Obj.cells #[.int .i64 (pc:Int)] 3)).of_block (hgrow.block hb Q5 (hwne hb hw.lth))).congr (fun j _=>by by_cases e:j=pc <;> simp [e])
    have hbut1:But (yN wb hb tv) w w1:=(((But.refl _ w).setCell (p:=⟨hb,pc,none⟩) (Or.inl (Or.inr (Or.inl rfl))) (.int .i64 height)).alloc (Obj.cells #[.int .i64 (pc:Int)] 3)).trans
     ⟨hgrow.os,hgrow.tape,hgrow.output,hgrow.size,fun k hk hs=>hgrow.block k hk (fun e=>hs (Or.inr (Or.inr e.symm)))⟩
    have hsz1:base≤w1.heap.size:=Nat.le_trans hw.size (Nat.le_trans Q9 hgrow.size);clear hgrow c1 c2 c3 kh kf fz;go_wp2
    go_ret;refine qI (fun i=>if i=pc then height else H i) (T++[pc]) (.slice (some ⟨gb,0,none⟩) (T.length+1) cap) true ?_ ⟨hne,hw.ltw,hw.lth,by simpa using hsz1,?_,?_,?_,?_,?_,hrow1.setOther (by exact hne.symm) _,?_⟩ (Or.inr (Or.inr (Or.inr ⟨rfl,hlt,HM.out,rfl,rfl⟩))) (hbut1.setCell (p:=⟨wb,3,none⟩) (Or.inl (Or.inl rfl)) _)
    all_goals go_light
    ·simp
    ·go_simp
    ·go_simp
    ·go_simp
    ·go_simp
    ·go_simp
    ·have:=ownsRow_setCell_below hown' (a:=⟨wb,3,none⟩) hw.ltw (.slice (some ⟨gb,0,none⟩) (T.length+1) cap)
     simpa [fP] using this
  ·have hmb:(H pc == -1)=false:=beq_eq_false_iff_ne.2 hm
   go_enter Tryz.func146,Tryz.ntmps146;go_wp2
   go_ret;refine qI H T tv (H pc == height) rfl hw ?_ (But.refl _ _)
   cases hq:H pc == height
   ·exact Or.inr (Or.inl ⟨rfl,hlt,hm,by simpa using hq⟩)
   ·exact Or.inr (Or.inr (Or.inl ⟨rfl,hlt,hm,by simpa using hq,rfl,rfl⟩))
 ·go_enter Tryz.func146,Tryz.ntmps146
  go_wp2
  go_ret;exact qI H T tv false rfl hw (Or.inl ⟨rfl,by omega⟩) (But.refl _ _)
end Go.Proofs.YtbkmgoffiigdbabGreatDoor
namespace Go.Proofs.YtbkmgoffiigdbabGreatDoor
open Go.RowKit Go.Sort
set_option maxHeartbeats 4000000
set_option maxRecDepth 100000
def xC (k:Nat):Int:=if k=14 then -1 else G1 k 0
def gG (k:Nat):Int:=if k=12 then 1 else if k=13 then 2 else if k=15∨k=27 then 3 else 0
def U6 (k:Nat):Nat:=if k=0 then 170 else if k=2∨k=3 then 174 else if k=12∨k=13 then 185 else if k=14 then 188 else if k=16 then 191 else if k=19∨k=20 then 195 else 172
def a9y:List Nat:=[171,173,175,176,177,178,179,180,181,182,183,184,186,187,189,190,192,193,194,196,197,198,199,200,201,202,203,204]
def doT (k:Nat):Nat:=a9y.getD k 0
def Tab (w:World):Prop:=0 < w.heap.size∧∀k,k < 28→w.cell? ⟨0,k*5,none⟩=some (.int .i64 (xC k))∧w.cell? ⟨0,k*5+1,none⟩=some (.int .i64 (J9 k)) ∧
 w.cell? ⟨0,k*5+2,none⟩=some (.int .i64 (gG k))∧w.cell? ⟨0,k*5+3,none⟩=some (.func (.func (U6 k)) #[] #[]) ∧
 w.cell? ⟨0,k*5+4,none⟩=some (.func (.func (doT k)) #[] #[])
theorem Tab.below {B:Nat} {w w':World} (h:Tab w) (hB:0 < B) (hb:Below B w w'):Tab w' :=
 ⟨Nat.lt_of_lt_of_le h.1 hb.size,fun k hk=>by
  rw[hb.cell (p:=⟨0,k*5,none⟩) hB,hb.cell (p:=⟨0,k*5+1,none⟩) hB,hb.cell (p:=⟨0,k*5+2,none⟩) hB,hb.cell (p:=⟨0,k*5+3,none⟩) hB,hb.cell (p:=⟨0,k*5+4,none⟩) hB];exact h.2 k hk⟩
theorem kN (B:Nat) (g:PgR) (k:Nat) (x:Int) (w:World) (hB:B≤w.heap.size) (hg:M3 B w g) (ht:Tab w) (hk:k < 28) (hx:(k:Int)=14→0≤x∧x < g.n) :
  Calls Tryz.prog 66 #[.agg #[.slice g.a g.n g.c],.agg #[.int .i64 (k:Int),.int .i64 x]] w fun e w'=>e=.returned (.int .i64 (G1 k (g.f x.toNat).p))∧Below w.heap.size w w':=by
 have hc:=(ht.2 k hk).1;by_cases h:k=14
 ·obtain ⟨h0,h1⟩:=hx Q8
  obtain⟨y,rfl⟩:=Int.eq_ofNat_of_zero_le h0;obtain⟨ha,hb,hcell⟩:=hg.2.1 Q8;subst h;rw[ha,Int.toNat_natCast,show G1 ((14:Nat):Int) (g.f y).p=(g.f y).p by simp [G1]];exact a0q g.b g.o g.n g.c y _ w ht.1 Q8 Q8 (by simpa [xC] using hc) (hcell y Q8).1
 ·have e:G1 (k:Int) (g.f x.toNat).p=xC k:=by
   unfold xC;rw [if_neg h];unfold G1;rw[if_neg (show ¬(k:Int)=14 by omega),if_neg (show ¬(k:Int)=14 by omega)]
  rw[e];refine xD _ _ _ k x _ w ht.1 hk ?_ hc;have hz:0≤xC k:=by unfold xC;rw [if_neg h];exact (pF _ _ (fun _=>by omega)).1
  rw[bne_iff_ne];omega
def Inv (F:E6) (H:Nat→Int) (T:List Nat):Prop :=
 (∀a,a < F.n → -1≤H a∧H a≤10∧(0≤H a→F.Reach a (H a)))∧(∀t,t∈T→t < F.n∧0≤H t)
def Ext (n:Nat) (H:Nat→Int) (T:List Nat) (H':Nat→Int) (T':List Nat):Prop :=
 (∀a,0≤H a→H' a=H a)∧(∀t,t∈T→t∈T')∧(∀a,a < n→0≤H' a→0≤H a∨a∈T')∧T'.length+left n H'≤T.length+left n H
theorem Ext.refl (n:Nat) (H:Nat→Int) (T:List Nat):Ext n H T H T:=⟨fun _ _=>rfl,fun _ h=>h,fun _ _ h=>Or.inl h,Nat.le_refl _⟩
theorem Ext.trans {n:Nat} {H H' H'':Nat→Int} {T T' T'':List Nat} (h:Ext n H T H' T') (k:Ext n H' T' H'' T''):Ext n H T H'' T'' :=
 ⟨fun a ha=>by rw [k.1 a (by rw [h.1 a ha];exact ha),h.1 a ha],fun t ht=>k.2.1 t (h.2.1 t ht),
  fun a ha hz=>(k.2.2.1 a ha hz).elim (fun h'=>(h.2.2.1 a ha h').imp id (k.2.1 a)) Or.inr,Nat.le_trans k.2.2.2 h.2.2.2⟩
theorem iR {F:E6} {H H':Nat→Int} {T T':List Nat} {a c:Nat} {b v:Int} {ok:Bool} (hi:Inv F H T) (hr:F.Reach a b) (hc:c∈F.next a) (hv:F.behind a b=v) (h0:0≤v) (h10:v≤10)
  (hs:vJ F.n H T c v H' T' ok):(ok=false∧¬F.Fits)∨(ok=true∧Inv F H' T'∧Ext F.n H T H' T'∧c < F.n∧H' c=v):=by
 have hrc:F.Reach c v:=hv▸E6.reach_next hr hc;rcases hs with ⟨rfl,hn⟩ | ⟨rfl,hn,h1,h2⟩ | ⟨rfl,hn,h1,h2,rfl,rfl⟩ | ⟨rfl,hn,h1,rfl,rfl⟩
 ·exact Or.inl ⟨rfl,E6.not_fits_past hr hc hn⟩
 ·have:=hi.1 c hn
  exact Or.inl ⟨rfl,E6.not_fits_two hr hc (this.2.2 Q8) (by rw [hv];exact h2)⟩
 ·exact Or.inr ⟨rfl,hi,Ext.refl _ _ _,hn,h2⟩
 ·refine Or.inr ⟨rfl,⟨fun x hx=>?_,fun t ht=>?_⟩,⟨fun x hx=>?_,fun t ht=>List.mem_append_left _ ht,fun x hx hz=>?_,?_⟩,hn,by simp⟩
  ·by_cases e:x=c
   ·subst e;simp only [if_pos];exact ⟨by omega,h10,fun _=>hrc⟩
   ·simp only [if_neg e];exact hi.1 x hx
  ·rcases List.mem_append.1 ht with ht | ht
   ·obtain ⟨p,q⟩:=hi.2 t ht
    refine⟨p,?_⟩;by_cases e:t=c
    ·subst e;simpa using h0
    ·simpa only [if_neg e] using q
   ·obtain rfl:t=c:=by simpa using ht
    exact⟨hn,by simpa using h0⟩
  ·have:x≠c:=by intro e;subst e;omega
   simp only[if_neg this]
  ·by_cases e:x=c
   ·subst e;exact Or.inr Q9
   ·simp only [if_neg e] at hz;exact Or.inl hz
  ·have:=eV hn (show H c < 0 by omega) h0
   simp only[List.length_append,List.length_cons,List.length_nil];omega
theorem U7 {w:World} {g:PgR} {f:FnR} {wb hb base:Nat} {H:Nat→Int} {T:List Nat} {tv:Value} (h:K3 w g f wb hb base H T tv) {B:Nat} (h1:B≤wb) (h2:B≤hb):∀k,k < B→¬yN wb hb tv k:=by
 rintro k hk (rfl | rfl | he)
 ·omega
 ·omega
 ·have:=(h.own.lt k he).1;have:=h.ltw;omega
def mJ (B:Nat) (g:PgR) (f:FnR) (wb hb base:Nat) (H:Nat→Int) (T:List Nat) (pc:Nat) (w:World) (e:Ending) (w':World):Prop :=
 ∃ok H' T' tv',e=.returned (.bool ok)∧Below B w w'∧((ok=false∧¬(A7 g f).Fits)∨(ok=true∧K3 w' g f wb hb base H' T' tv'∧Inv (A7 g f) H' T'∧Ext f.n H T H' T'∧(A7 g f).Shut H' pc))
theorem Y4 {B:Nat} {g:PgR} {f:FnR} {wb hb base:Nat} {H:Nat→Int} {T:List Nat} {pc:Nat} {w:World} {e:Ending} {w':World} (he:e=.returned (.bool false)) (hb':Below B w w') (hn:¬(A7 g f).Fits) :
  mJ B g f wb hb base H T pc w e w':=⟨false,H,T,.slice none 0 0,he,hb',Or.inl ⟨rfl,hn⟩⟩
theorem bU {B:Nat} {g:PgR} {f:FnR} {wb hb base:Nat} {H:Nat→Int} {T:List Nat} {pc:Nat} {w:World} {e:Ending} {w':World} (H':Nat→Int) (T':List Nat) (tv':Value) (he:e=.returned (.bool true)) (hb':Below B w w')
  (hw:K3 w' g f wb hb base H' T' tv') (hi:Inv (A7 g f) H' T') (hx:Ext f.n H T H' T') (hs:(A7 g f).Shut H' pc):mJ B g f wb hb base H T pc w e w':=⟨true,H',T',tv',he,hb',Or.inr ⟨rfl,hw,hi,hx,hs⟩⟩
end Go.Proofs.YtbkmgoffiigdbabGreatDoor
