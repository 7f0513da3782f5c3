import Derived.Test.YtbkmgoffiigdbabGreatDoorWP
namespace Go.Proofs.YtbkmgoffiigdbabGreatDoor
open Go.RowKit
set_option maxHeartbeats 4000000
set_option maxRecDepth 100000
def kW (g:PgR):Prop:=∀i,i < g.n→∀j,j < (g.f i).n→Y5 g i j=true
theorem pC {g:PgR} (hS:aO g) (hL:kW g) {i:Nat} (hi:i < g.n):a3x g (g.f i) :=
 ⟨(hS.bd hi).1,(hS.bd hi).2.1,fun j hj=>by have:=hS.bd hj;omega,hL i hi⟩
def a5B (g:PgR) (w:World) (e:Ending) (w':World):Prop:=∃at_ ok,e=.returned (.tuple #[.int .i64 at_,.bool ok])∧U8 g at_ ok∧Below w.heap.size w w'
theorem a6m {g:PgR} {w:World} {e:Ending} {w':World} (at_:Int) (ok:Bool) (he:e=.returned (.tuple #[.int .i64 at_,.bool ok])) (hs:U8 g at_ ok) (hb:Below w.heap.size w w'):a5B g w e w':=⟨at_,ok,he,hs,hb⟩
theorem mT (g:PgR) (w:World) (hg:M3 w.heap.size w g) (hS:aO g) (hL:kW g) (ht:Tab w) :
  Calls Tryz.prog 95 #[.agg #[.slice g.a g.n g.c]] w fun e w'=>a5B g w e w':=by
 have hn:=hg.1;have h81:=hS.1;have h82:=hS.2.1;obtain⟨ha,hb,hc⟩:=hg.2.1 Q8;have HC:=(show Hid _ from hc);clear hc;have hz0:=ht.1;have HA:=(show Hid _ from ha);have k0':(w.alloc (Obj.cells #[.slice g.a g.n g.c] 27)).cell? ⟨w.heap.size,0,none⟩=some (.slice g.a g.n g.c):=by go_simp
 rw[ha] at k0' ⊢;clear ha;go_enter Tryz.func95,Tryz.ntmps95;go_wp2
 have hbelW:Below w.heap.size w (w.alloc (Obj.cells #[.slice (some ⟨g.b,g.o,none⟩) g.n g.c] 27)):=(Below.refl _ _).alloc (Nat.le_refl _) _;have hsW:(w.alloc (Obj.cells #[.slice (some ⟨g.b,g.o,none⟩) g.n g.c] 27)).heap.size=w.heap.size+1:=by simp
 generalize w.alloc (Obj.cells #[.slice (some ⟨g.b,g.o,none⟩) g.n g.c] 27)=W1 at *
 go_loopw [11] (fun i wr=>∃k:Nat,k≤g.n∧i=.int .i64 k∧(∀i,i < k→(A7 g (g.f i)).Fits)∧Below W1.heap.size W1 wr) (fun i _=>g.n - (intOf i).toNat)
 case atStart=>exact ⟨0,Nat.zero_le _,rfl,fun j hj=>by omega,Below.refl _ _⟩
 case round =>
  obtain⟨k,hk,rfl,hok0,hbel1⟩:=hrel;have HOK:=(show Hid _ from hok0);clear hok0;have hsz:=hbel1.size;by_cases hlt:k < g.n
  ·obtain ⟨c0,c1,c2⟩:=HC.out k hlt
   have hbelw:Below w.heap.size w wr:=hbelW.trans (hbel1.mono Q8);rw[← hbelw.cell (p:=⟨g.b,_,none⟩) hb] at c0 c1 c2;have hbw:g.b < wr.heap.size:=by omega
   have hwz:w.heap.size < wr.heap.size:=by omega
   have k0:wr.cell? ⟨w.heap.size,0,none⟩=some (.slice (some ⟨g.b,g.o,none⟩) g.n g.c):=by rw [hbel1.cell (by show w.heap.size < W1.heap.size;omega)];exact k0'
   have HH:Hid (∀W,Below wr.heap.size wr W→Calls Tryz.prog 128 #[.agg #[.slice (some ⟨g.b,g.o,none⟩) g.n g.c],.agg #[.int .i64 (g.f k).p,.int .i64 (g.f k).l,.slice (g.f k).a (g.f k).n (g.f k).c]] W fun e w'=>bZ g (g.f k) W e w'):=by
    intro W hW;have hwW:Below w.heap.size w W:=hbelw.trans (hW.mono hbelw.size);rw[← HA.out];exact tI w.heap.size g (g.f k) W hz0 (Nat.le_trans hbelw.size hW.size) (hg.below hwW) ((hg.2.2 k hlt).below hwW) (pC hS hL hlt) (ht.below hz0 hwW)
   go_wp2_with fail;refine (HH.out _ (by repeat (first | exact Below.refl _ _ | refine Below.drew ?_ | refine Below.setCell ?_ P6 _ | refine Below.alloc ?_ P6 _))).mono ?_;rintro e w2 ⟨v,ok,rfl,hiff,hb2⟩
   cases ok
   ·have hnf:¬(A7 g (g.f k)).Fits:=fun h=>by have:=hiff.2 h;cases this
    have HNF:=(show Hid _ from hnf);clear hnf hiff;go_wp2_with fail;go_ret2;exact a6m k false rfl (Or.inr ⟨rfl,k,rfl,hlt,HNF.out,HOK.out⟩) (W4 hb2 ((hbelw.alloc Q8 _)) P6)
   ·have hfit:=hiff.1 rfl
    have HFIT:=(show Hid _ from hfit);clear hfit hiff;go_wp2_with fail;go_roundw
    case rel=>exact ⟨k+1,by omega,by go_num,fun t ht=>by
     by_cases e:t=k
     ·subst e;exact HFIT.out
     ·exact HOK.out t Q8,W4 hb2 ((hbel1.alloc Q8 _)) P6⟩
    case measure=>simp [intOf];omega
  ·go_wp2
   go_ret2;exact a6m 0 true rfl (Or.inl ⟨rfl,rfl,fun i hi=>HOK.out i Q8⟩) (hbelW.trans (hbel1.mono Q8))
def N6 (g:PgR) (e a:Int):Prop :=
 (aR g a false∧e=1)∨(aR g 0 true∧((bR g a false∧e=2)∨(bR g 0 true∧((U8 g a false∧e=3)∨(U8 g 0 true∧e=0∧a=0)))))
theorem aR.all {g:PgR} {a:Int} (h:aR g a true):aO g∧a=0:=by
 rcases h with ⟨_,h0,h1,h2,h3⟩ | ⟨h,_⟩ | ⟨h,_⟩
 ·exact ⟨⟨h1,h2,h3⟩,h0⟩
 ·cases h
 ·cases h
theorem bR.all {g:PgR} {a:Int} (h:bR g a true):kW g∧a=0:=by
 rcases h with ⟨_,h0,h1⟩ | ⟨h,_⟩
 ·exact ⟨h1,h0⟩
 ·cases h
theorem U8.zero {g:PgR} {a:Int} (h:U8 g a true):a=0:=by
 rcases h with ⟨_,h0,_⟩ | ⟨h,_⟩
 ·exact h0
 ·cases h
theorem aR.unique {g:PgR} {a b:Int} {x y:Bool} (h:aR g a x) (h':aR g b y):a=b∧x=y:=by
 rcases h with ⟨rfl,rfl,h1,h2,h3⟩ | ⟨rfl,rfl,h1⟩ | ⟨rfl,h1,h2,k,rfl,hk⟩ <;> rcases h' with ⟨rfl,rfl,g1,g2,g3⟩ | ⟨rfl,rfl,g1⟩ | ⟨rfl,g1,g2,k',rfl,hk'⟩
 ·exact ⟨rfl,rfl⟩
 ·exact absurd ⟨h1,h2⟩ g1
 ·have:=h3 k' hk'.1;have h4:=hk'.2.1;simp only at h4;rw [this] at h4;cases h4
 ·exact absurd ⟨g1,g2⟩ h1
 ·exact ⟨rfl,rfl⟩
 ·exact absurd ⟨g1,g2⟩ h1
 ·have:=g3 k hk.1;have h4:=hk.2.1;simp only at h4;rw [this] at h4;cases h4
 ·exact absurd ⟨h1,h2⟩ g1
 ·rw [hk.unique hk'];exact ⟨rfl,rfl⟩
theorem bR.unique {g:PgR} {a b:Int} {x y:Bool} (h:bR g a x) (h':bR g b y):a=b∧x=y:=by
 rcases h with ⟨rfl,rfl,h1⟩ | ⟨rfl,k,j,rfl,hk,h1,hj⟩ <;> rcases h' with ⟨rfl,rfl,g1⟩ | ⟨rfl,k',j',rfl,hk',g1,hj'⟩
 ·exact ⟨rfl,rfl⟩
 ·have:=h1 k' hk' j' hj'.1;rw [hj'.2.1] at this;cases this
 ·have:=g1 k hk j hj.1;rw [hj.2.1] at this;cases this
 ·rcases Nat.lt_trichotomy k k' with hl | rfl | hl
  ·have:=g1 k hl j hj.1;rw [hj.2.1] at this;cases this
  ·rw [hj.unique hj'];exact ⟨rfl,rfl⟩
  ·have:=h1 k' hl j' hj'.1;rw [hj'.2.1] at this;cases this
theorem U8.unique {g:PgR} {a b:Int} {x y:Bool} (h:U8 g a x) (h':U8 g b y):a=b∧x=y:=by
 rcases h with ⟨rfl,rfl,h1⟩ | ⟨rfl,k,rfl,hk,h1,hj⟩ <;> rcases h' with ⟨rfl,rfl,g1⟩ | ⟨rfl,k',rfl,hk',g1,hj'⟩
 ·exact ⟨rfl,rfl⟩
 ·exact absurd (h1 k' hk') g1
 ·exact absurd (g1 k hk) h1
 ·rcases Nat.lt_trichotomy k k' with hl | rfl | hl
  ·exact absurd (hj' k hl) h1
  ·exact ⟨rfl,rfl⟩
  ·exact absurd (hj k' hl) g1
theorem N6.unique {g:PgR} {e a e' a':Int} (h:N6 g e a) (h':N6 g e' a'):e=e'∧a=a':=by
 rcases h with ⟨h1,rfl⟩ | ⟨h1,⟨h2,rfl⟩ | ⟨h2,⟨h3,rfl⟩ | ⟨h3,rfl,rfl⟩⟩⟩ <;> rcases h' with ⟨g1,rfl⟩ | ⟨g1,⟨g2,rfl⟩ | ⟨g2,⟨g3,rfl⟩ | ⟨g3,rfl,rfl⟩⟩⟩
 all_goals first
  | exact ⟨rfl,rfl⟩
  | exact absurd (h1.unique g1).2 Q7
  | exact absurd (h2.unique g2).2 Q7
  | exact absurd (h3.unique g3).2 Q7
  | exact ⟨rfl,(h1.unique g1).1⟩
  | exact ⟨rfl,(h2.unique g2).1⟩
  | exact ⟨rfl,(h3.unique g3).1⟩
def tX (g:PgR) (w:World) (e:Ending) (w':World):Prop:=∃x a,e=.returned (.tuple #[.int .i64 x,.int .i64 a])∧N6 g x a∧Below w.heap.size w w'
theorem iQ {g:PgR} {w:World} {e:Ending} {w':World} (x a:Int) (he:e=.returned (.tuple #[.int .i64 x,.int .i64 a])) (hs:N6 g x a) (hb:Below w.heap.size w w'):tX g w e w':=⟨x,a,he,hs,hb⟩
theorem mU (g:PgR) (w:World) (hg:M3 w.heap.size w g) (ht:Tab w) :
  Calls Tryz.prog 59 #[.agg #[.slice g.a g.n g.c]] w fun e w'=>tX g w e w':=by
 have hz0:=ht.1;go_enter Tryz.func59,Tryz.ntmps59;go_wp2_with fail;have hbW:Below w.heap.size w (w.alloc (Obj.cells #[.slice g.a g.n g.c] 27)):=(Below.refl _ _).alloc (Nat.le_refl _) _;have k0:(w.alloc (Obj.cells #[.slice g.a g.n g.c] 27)).cell? ⟨w.heap.size,0,none⟩=some (.slice g.a g.n g.c):=by go_simp
 have hsW:(w.alloc (Obj.cells #[.slice g.a g.n g.c] 27)).heap.size=w.heap.size+1:=by simp
 generalize w.alloc (Obj.cells #[.slice g.a g.n g.c] 27)=W at *
 have hgW:M3 W.heap.size W g:=(hg.below hbW).mono hbW.size;refine (qF g W hgW).mono ?_;rintro e w2 ⟨at1,ok1,rfl,hs1,hb2⟩;have hB2:Below w.heap.size w w2:=hbW.trans (hb2.mono hbW.size);have k2:w2.cell? ⟨w.heap.size,0,none⟩=some (.slice g.a g.n g.c):=by rw [hb2.cell (by show w.heap.size < W.heap.size;omega)];exact k0
 have hsz2:=hb2.size
 cases ok1
 ·go_wp2_with fail
  go_ret2;exact iQ 1 at1 rfl (Or.inl ⟨hs1,rfl⟩) hB2
 obtain⟨hS,rfl⟩:=hs1.all;clear hb2 k0;go_wp2_with fail;refine (tA g w2 ((hg.below hB2).mono hB2.size) hS (ht.below hz0 hB2)).mono ?_;rintro e w3 ⟨at2,ok2,rfl,hs2,hb3⟩;have hB3:Below w.heap.size w w3:=hB2.trans (hb3.mono hB2.size);have k3:w3.cell? ⟨w.heap.size,0,none⟩=some (.slice g.a g.n g.c):=by rw [hb3.cell (by show w.heap.size < w2.heap.size;omega)];exact k2
 have hsz3:=hb3.size
 cases ok2
 ·go_wp2_with fail
  go_ret2;exact iQ 2 at2 rfl (Or.inr ⟨hs1,Or.inl ⟨hs2,rfl⟩⟩) hB3
 obtain⟨hL,rfl⟩:=hs2.all;clear hb3 k2;go_wp2_with fail;refine (mT g w3 ((hg.below hB3).mono hB3.size) hS hL (ht.below hz0 hB3)).mono ?_;rintro e w4 ⟨at3,ok3,rfl,hs3,hb4⟩;have hB4:Below w.heap.size w w4:=hB3.trans (hb4.mono hB3.size)
 cases ok3
 ·go_wp2_with fail
  go_ret2;exact iQ 3 at3 rfl (Or.inr ⟨hs1,Or.inr ⟨hs2,Or.inl ⟨hs3,rfl⟩⟩⟩) hB4
 obtain rfl:=hs3.zero;go_wp2_with fail;go_ret2;exact iQ 0 0 rfl (Or.inr ⟨hs1,Or.inr ⟨hs2,Or.inr ⟨hs3,rfl,rfl⟩⟩⟩) hB4
end Go.Proofs.YtbkmgoffiigdbabGreatDoor
