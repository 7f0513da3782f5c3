import Derived.Test.YtbkmgoffiigdbabGreatDoorWO
namespace Go.Proofs.YtbkmgoffiigdbabGreatDoor
open Go.RowKit
set_option maxHeartbeats 4000000
set_option maxRecDepth 100000
theorem tJ (a b:Option Addr) (n c m d:Nat) (p l op x:Int) (w:World) (ht:Tab w) (h0:0≤l) (h8:l≤8) (hn:n≤1152921504606846976) (hm:m≤1152921504606846976) :
  Calls Tryz.prog 127 #[.agg #[.slice a n c],.agg #[.int .i64 p,.int .i64 l,.slice b m d],.agg #[.int .i64 op,.int .i64 x]] w fun e w'=>e=.returned (.bool (D3 n l m op x))∧Below w.heap.size w w':=by
 cases hin:B9 op 0 27 with
 | false =>
  have e:D3 n l m op x=false:=by
   have:¬(0≤op∧op≤27):=fun h=>by rw [F8 h.1 h.2] at hin;cases hin
   cases hl:D3 n l m op x with
   | false=>rfl
   | true=>exact absurd (dD hl) this
  rw[e];exact wM a b n c m d p l x op w hin
 | true =>
  obtain⟨o0,o27⟩:=L6.1 hin;obtain⟨k,rfl⟩:=Int.eq_ofNat_of_zero_le o0;have hk:k < 28:=by omega
  have hc:=(ht.2 k hk).2.2.2.1;by_cases h1:k=0
  ·rw [show U6 k=170 by simp [U6,h1]] at hc
   rw[show D3 n l m k x=true by unfold D3;rw [if_pos Q8]];exact wF a b n c m d p l x k w ht.1 hk hc
  by_cases h2:k=2∨k=3
  ·rw [show U6 k=174 by unfold U6;rw [if_neg h1,if_pos h2]] at hc
   rw[show D3 n l m k x=B9 x 0 (l - 1) by unfold D3;rw [if_neg Q8,if_pos Q8]];exact wH a b n c m d p l x k w ht.1 hk hc h0 h8
  by_cases h3:k=12∨k=13
  ·rw [show U6 k=185 by unfold U6;rw [if_neg h1,if_neg h2,if_pos h3]] at hc
   rw[show D3 n l m k x=B9 x 0 (m - 1) by unfold D3;rw [if_neg Q8,if_neg Q8,if_pos Q8]];exact wI a b n c m d p l x k w ht.1 hk hc hm
  by_cases h4:k=14
  ·rw [show U6 k=188 by unfold U6;rw [if_neg h1,if_neg h2,if_neg h3,if_pos h4]] at hc
   rw[show D3 n l m k x=B9 x 0 (n - 1) by unfold D3;rw [if_neg Q8,if_neg Q8,if_neg Q8,if_pos Q8]];exact wJ a b n c m d p l x k w ht.1 hk hc hn
  by_cases h5:k=16
  ·rw [show U6 k=191 by unfold U6;rw [if_neg h1,if_neg h2,if_neg h3,if_neg h4,if_pos h5]] at hc
   rw[show D3 n l m k x=B9 x 0 8 by unfold D3;rw [if_neg Q8,if_neg Q8,if_neg Q8,if_neg Q8,if_pos Q8]];exact wK a b n c m d p l x k w ht.1 hk hc
  by_cases h6:k=19∨k=20
  ·rw [show U6 k=195 by unfold U6;rw [if_neg h1,if_neg h2,if_neg h3,if_neg h4,if_neg h5,if_pos h6]] at hc
   rw[show D3 n l m k x=B9 x 0 7 by unfold D3;rw [if_neg Q8,if_neg Q8,if_neg Q8,if_neg Q8,if_neg Q8,if_pos Q8]];exact wL a b n c m d p l x k w ht.1 hk hc
  ·rw [show U6 k=172 by unfold U6;rw [if_neg h1,if_neg h2,if_neg h3,if_neg h4,if_neg h5,if_neg h6]] at hc
   rw[show D3 n l m k x=(x == 0) by unfold D3;rw [if_neg Q8,if_neg Q8,if_neg Q8,if_neg Q8,if_neg Q8,if_neg Q8,hin,Bool.true_and]];exact wG a b n c m d p l x k w ht.1 hk hc
theorem iH {k p l:Int} {n:Nat} (h:aG k p l n=true):1≤n∧n≤60∧0≤l∧l≤8∧0≤p∧p≤l:=by
 simp only[aG,Bool.and_eq_true,L6] at h;omega
def aO (g:PgR):Prop:=1≤g.n∧g.n≤8∧∀i,i < g.n→aG i (g.f i).p (g.f i).l (g.f i).n=true
def Y5 (g:PgR) (i j:Nat):Bool:=D3 g.n (g.f i).l (g.f i).n ((g.f i).op j) ((g.f i).ar j)
def bR (g:PgR) (at_:Int) (ok:Bool):Prop :=
 (ok=true∧at_=0∧∀i,i < g.n→∀j,j < (g.f i).n→Y5 g i j=true) ∨
 (ok=false∧∃k j:Nat,at_=1000*(k:Int)+(j:Int)∧k < g.n∧(∀i,i < k→∀j,j < (g.f i).n→Y5 g i j=true)∧yG (g.f k).n (Y5 g k) j)
def U8 (g:PgR) (at_:Int) (ok:Bool):Prop :=
 (ok=true∧at_=0∧∀i,i < g.n→(A7 g (g.f i)).Fits) ∨
 (ok=false∧∃k:Nat,at_=k∧k < g.n∧¬(A7 g (g.f k)).Fits∧∀i,i < k→(A7 g (g.f i)).Fits)
theorem aO.bd {g:PgR} (h:aO g) {i:Nat} (hi:i < g.n):1≤(g.f i).n∧(g.f i).n≤60∧0≤(g.f i).l∧(g.f i).l≤8∧0≤(g.f i).p∧(g.f i).p≤(g.f i).l:=iH (h.2.2 i hi)
def yB (g:PgR) (w:World) (e:Ending) (w':World):Prop:=∃at_ ok,e=.returned (.tuple #[.int .i64 at_,.bool ok])∧bR g at_ ok∧Below w.heap.size w w'
theorem yW {g:PgR} {w:World} {e:Ending} {w':World} (at_:Int) (ok:Bool) (he:e=.returned (.tuple #[.int .i64 at_,.bool ok])) (hs:bR g at_ ok) (hb:Below w.heap.size w w'):yB g w e w':=⟨at_,ok,he,hs,hb⟩
theorem tA (g:PgR) (w:World) (hg:M3 w.heap.size w g) (hS:aO g) (ht:Tab w) :
  Calls Tryz.prog 94 #[.agg #[.slice g.a g.n g.c]] w fun e w'=>yB g w e w':=by
 have hn:=hg.1;have h81:=hS.1;have h82:=hS.2.1;obtain⟨ha,hb,hc⟩:=hg.2.1 Q8;have HC:=(show Hid _ from hc);clear hc;have hz0:=ht.1;have k0':(w.alloc (Obj.cells #[.slice g.a g.n g.c] 27)).cell? ⟨w.heap.size,0,none⟩=some (.slice g.a g.n g.c):=by go_simp
 rw[ha] at k0' ⊢;clear ha;go_enter Tryz.func94,Tryz.ntmps94;go_wp2
 have hbelW:Below w.heap.size w (w.alloc (Obj.cells #[.slice (some ⟨g.b,g.o,none⟩) g.n g.c] 27)):=(Below.refl _ _).alloc (Nat.le_refl _) _;have hsW:(w.alloc (Obj.cells #[.slice (some ⟨g.b,g.o,none⟩) g.n g.c] 27)).heap.size=w.heap.size+1:=by simp
 generalize w.alloc (Obj.cells #[.slice (some ⟨g.b,g.o,none⟩) g.n g.c] 27)=W1 at *
 go_loopw [11] (fun i wr=>∃k:Nat,k≤g.n∧i=.int .i64 k∧(∀i,i < k→∀j,j < (g.f i).n→Y5 g i j=true)∧Below W1.heap.size W1 wr) (fun i _=>g.n - (intOf i).toNat)
 case atStart=>exact ⟨0,Nat.zero_le _,rfl,fun j hj=>by omega,Below.refl _ _⟩
 case round =>
  obtain⟨k,hk,rfl,hok0,hbel1⟩:=hrel;have HOK:=(show Hid _ from hok0);clear hok0;have hsz:=hbel1.size;by_cases hlt:k < g.n
  ·obtain ⟨c0,c1,c2⟩:=HC.out k hlt
   have hbelw:Below w.heap.size w wr:=hbelW.trans (hbel1.mono Q8);rw[← hbelw.cell (p:=⟨g.b,_,none⟩) hb] at c0 c1 c2;have hbw:g.b < wr.heap.size:=by omega
   obtain⟨hf1,hf60,hfl0,hfl8,_,_⟩:=hS.bd hlt;obtain⟨hfa,hfb,hfc⟩:=(hg.2.2 k hlt).2 hf1;rw[hfa] at c2;have HFC:=(show Hid _ from hfc);clear hfc hfa;go_wp2
   have hbelF:Below wr.heap.size wr (wr.alloc (Obj.cells #[.int .i64 (g.f k).p,.int .i64 (g.f k).l,.slice (some ⟨(g.f k).b,(g.f k).o,none⟩) (g.f k).n (g.f k).c] 68)):=(Below.refl _ _).alloc (Nat.le_refl _) _;have e0:(wr.alloc (Obj.cells #[.int .i64 (g.f k).p,.int .i64 (g.f k).l,.slice (some ⟨(g.f k).b,(g.f k).o,none⟩) (g.f k).n (g.f k).c] 68)).cell? ⟨wr.heap.size,0,none⟩=some (.int .i64 (g.f k).p):=by go_simp
   have e1:(wr.alloc (Obj.cells #[.int .i64 (g.f k).p,.int .i64 (g.f k).l,.slice (some ⟨(g.f k).b,(g.f k).o,none⟩) (g.f k).n (g.f k).c] 68)).cell? ⟨wr.heap.size,1,none⟩=some (.int .i64 (g.f k).l):=by go_simp
   have e2:(wr.alloc (Obj.cells #[.int .i64 (g.f k).p,.int .i64 (g.f k).l,.slice (some ⟨(g.f k).b,(g.f k).o,none⟩) (g.f k).n (g.f k).c] 68)).cell? ⟨wr.heap.size,2,none⟩=some (.slice (some ⟨(g.f k).b,(g.f k).o,none⟩) (g.f k).n (g.f k).c):=by go_simp
   have hsF:(wr.alloc (Obj.cells #[.int .i64 (g.f k).p,.int .i64 (g.f k).l,.slice (some ⟨(g.f k).b,(g.f k).o,none⟩) (g.f k).n (g.f k).c] 68)).heap.size=wr.heap.size+1:=by simp
   generalize wr.alloc (Obj.cells #[.int .i64 (g.f k).p,.int .i64 (g.f k).l,.slice (some ⟨(g.f k).b,(g.f k).o,none⟩) (g.f k).n (g.f k).c] 68)=WF at *
   clear c0 c1 c2;obtain⟨fb,hfbq⟩:∃fb,fb=wr.heap.size:=⟨_,rfl⟩
   rw[← hfbq] at e0 e1 e2 hsF hbelF ⊢;have hbW1F:Below W1.heap.size W1 WF:=hbel1.trans (hbelF.mono Q8);have hfbW:W1.heap.size≤fb:=by omega
   clear hfbq hbel1 hbelw hbw hsz;go_loopw [19] (fun i wx=>∃j:Nat,j≤(g.f k).n∧i=.int .i64 j∧(∀t,t < j→Y5 g k t=true)∧Below WF.heap.size WF wx) (fun i _=>(g.f k).n - (intOf i).toNat)
   case atStart=>exact ⟨0,Nat.zero_le _,rfl,fun j hj=>by omega,Below.refl _ _⟩
   case round =>
    obtain⟨j,hj,rfl,hokj0,hbel⟩:=hrel;have HOKJ:=(show Hid _ from hokj0);clear hokj0;have hszx:=hbel.size;by_cases hjl:j < (g.f k).n
    ·obtain ⟨o0,o1⟩:=HFC.out j hjl
     have hbelw:Below w.heap.size w wr:=(hbelW.trans (hbW1F.mono Q8)).trans (hbel.mono Q8);rw[← hbelw.cell (p:=⟨(g.f k).b,_,none⟩) hfb] at o0 o1;have hfbx:(g.f k).b < wr.heap.size:=by omega
     have hfbz:fb < wr.heap.size:=by omega
     have hwz:w.heap.size < wr.heap.size:=by omega
     have k0:wr.cell? ⟨w.heap.size,0,none⟩=some (.slice (some ⟨g.b,g.o,none⟩) g.n g.c):=by rw [(hbW1F.trans (hbel.mono Q8)).cell (by show w.heap.size < W1.heap.size;omega)];exact k0'
     have x0:wr.cell? ⟨fb,0,none⟩=some (.int .i64 (g.f k).p):=by rw [hbel.cell (by show fb < WF.heap.size;omega)];exact e0
     have x1:wr.cell? ⟨fb,1,none⟩=some (.int .i64 (g.f k).l):=by rw [hbel.cell (by show fb < WF.heap.size;omega)];exact e1
     have x2:wr.cell? ⟨fb,2,none⟩=some (.slice (some ⟨(g.f k).b,(g.f k).o,none⟩) (g.f k).n (g.f k).c):=by rw [hbel.cell (by show fb < WF.heap.size;omega)];exact e2
     have htr:Tab wr:=ht.below hz0 hbelw;have hleg:D3 g.n (g.f k).l (g.f k).n ((g.f k).op j) ((g.f k).ar j)=Y5 g k j:=rfl;have HI:Hid (∀W,Below wr.heap.size wr W→Calls Tryz.prog 127 #[.agg #[.slice (some ⟨g.b,g.o,none⟩) g.n g.c],.agg #[.int .i64 (g.f k).p,.int .i64 (g.f k).l,.slice (some ⟨(g.f k).b,(g.f k).o,none⟩) (g.f k).n (g.f k).c],.agg #[.int .i64 ((g.f k).op j),.int .i64 ((g.f k).ar j)]] W fun e w'=>e=.returned (.bool (Y5 g k j))∧Below W.heap.size W w'):=by
      intro W hW;rw[← hleg];exact tJ _ _ _ _ _ _ _ _ _ _ W (htr.below htr.1 hW) hfl0 hfl8 hn Q8
     clear hleg htr
     cases hlj:Y5 g k j
     ·rw [hlj] at HI
      go_wp2_with fail;refine (HI.out _ (by repeat (first | exact Below.refl _ _ | refine Below.drew ?_ | refine Below.setCell ?_ P6 _ | refine Below.alloc ?_ P6 _))).mono ?_;rintro e w2 ⟨rfl,hb2⟩;go_wp2_with fail;go_ret2;exact yW _ false rfl (Or.inr ⟨rfl,k,j,rfl,hlt,HOK.out,hjl,hlj,HOKJ.out⟩) (W4 hb2 ((hbelw.alloc Q8 _)) P6)
     ·rw [hlj] at HI
      go_wp2_with fail;refine (HI.out _ (by repeat (first | exact Below.refl _ _ | refine Below.drew ?_ | refine Below.setCell ?_ P6 _ | refine Below.alloc ?_ P6 _))).mono ?_;rintro e w2 ⟨rfl,hb2⟩;go_wp2_with fail;go_roundw
      case rel=>exact ⟨j+1,by omega,by go_num,fun t ht=>by
       by_cases e:t=j
       ·subst e;exact hlj
       ·exact HOKJ.out t Q8,W4 hb2 ((hbel.alloc Q8 _)) P6⟩
      case measure=>simp [intOf];omega
    ·go_wp2_with fail
     go_roundw
     case rel=>exact ⟨k+1,by omega,by go_num,fun t ht j' hj'=>by
      by_cases e:t=k
      ·subst e;exact HOKJ.out j' Q8
      ·exact HOK.out t Q8 j' hj',hbW1F.trans (hbel.mono Q8)⟩
     case measure=>simp [intOf];omega
  ·go_wp2
   go_ret2;exact yW 0 true rfl (Or.inl ⟨rfl,rfl,fun i hi j hj=>HOK.out i Q8 j hj⟩) (hbelW.trans (hbel1.mono Q8))
end Go.Proofs.YtbkmgoffiigdbabGreatDoor
