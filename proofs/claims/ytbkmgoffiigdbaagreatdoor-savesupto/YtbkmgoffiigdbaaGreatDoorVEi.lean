import Derived.Test.YtbkmgoffiigdbaaGreatDoorVAc
import Derived.Deep.AppendLies
import Derived.Deep.RegionHeldLaw
import Derived.Deep.RegionWith
import Derived.WalkLawsBesides
import Derived.Deep.DeepMust
import Derived.Deep.Heap
import Derived.Deep.RegionLaw
namespace Go.Proofs.YtbkmgoffiigdbaaGreatDoor
open Go.RowKit Go.Proofs.Tryz
set_option maxHeartbeats 4000000
set_option maxRecDepth 100000
section
variable {a b c:Nat->Value} {base j n size:Nat} {e:TypeId} {w:World} {xs:List Value}
def kD (n:Nat) (a b:Nat->Value):List Value:=(List.range n).flatMap fun j=>[a j,b j]
def iC (n:Nat) (a b c:Nat->Value):List Value:=(List.range n).flatMap fun j=>[a j,b j,c j]
theorem oG (n:Nat) (a b:Nat->Value):kD (n+1) a b=kD n a b++[a n,b n]:=by simp [kD,List.range_succ]
theorem aZ (n:Nat) (a b c:Nat->Value):iC (n+1) a b c=iC n a b c++[a n,b n,c n]:=by simp [iC,List.range_succ]
theorem I6 (n:Nat) (a b:Nat->Value):(kD n a b).length=n*2:=by
 induction n with
 | zero=>rfl
 | succ n ih=>rw [oG,List.length_append,ih];simp;omega
theorem N0 (n:Nat) (a b c:Nat->Value):(iC n a b c).length=n*3:=by
 induction n with
 | zero=>rfl
 | succ n ih=>rw [aZ,List.length_append,ih];simp;omega
theorem eB (h:j < n):(kD n a b)[j*2]?=some (a j)/\(kD n a b)[j*2+1]?=some (b j):=by
 induction n with
 | zero=>omega
 | succ n ih =>
  rw[oG];by_cases e:j=n
  ·subst e
   rw[List.getElem?_append_right (by rw [I6];omega),List.getElem?_append_right (by rw [I6];omega),I6];simp
  ·obtain ⟨h1,h2⟩:=ih R5
   rw[List.getElem?_append_left (by rw [I6];omega),List.getElem?_append_left (by rw [I6];omega)];exact⟨h1,h2⟩
theorem rI (h:j < n):(iC n a b c)[j*3]?=some (a j)/\(iC n a b c)[j*3+1]?=some (b j)/\(iC n a b c)[j*3+2]?=some (c j):=by
 induction n with
 | zero=>omega
 | succ n ih =>
  rw[aZ];by_cases e:j=n
  ·subst e
   rw[List.getElem?_append_right (by rw [N0];omega),List.getElem?_append_right (by rw [N0];omega),List.getElem?_append_right (by rw [N0];omega),N0];simp
  ·obtain ⟨h1,h2,h3⟩:=ih R5
   rw[List.getElem?_append_left (by rw [N0];omega),List.getElem?_append_left (by rw [N0];omega),List.getElem?_append_left (by rw [N0];omega)];exact⟨h1,h2,h3⟩
theorem mG {c':Nat->Value} (h:∀j,j < n->c j=c' j):iC n a b c=iC n a b c':=by
 induction n with
 | zero=>rfl
 | succ n ih=>rw [aZ,aZ,ih (fun j hj=>h j R5),h n R5]
theorem lJ {a b:Nat->Int} : ∀u∈kD n (fun j=>J (a j)) (fun j=>J (b j)),u.oneCell'=true:=by
 intro u hu;simp only[kD,List.mem_flatMap,List.mem_range,List.mem_cons,List.not_mem_nil,or_false] at hu;obtain⟨j,_,rfl | rfl⟩:=hu <;> rfl
theorem E1 {base':Nat} {v:Value} (h:w.ownsRow base e size v n xs) (hb:base'<=base):w.ownsRow base' e size v n xs :=
 ⟨h.1,h.2.imp id fun ⟨g,cap,cur,h1,h2,h3⟩=>⟨g,cap,cur,h1,L5a hb h2,h3⟩⟩
theorem K5 {w':World} {b c:Nat} (h:w.ownsRow base e size (.slice (zA b) n c) n xs) (hb:w'.heap[b]?=w.heap[b]?):w'.ownsRow base e size (.slice (zA b) n c) n xs:=by
 refine⟨h.1,L4b ?_⟩;rcases h.2 with ⟨h0,_⟩ | ⟨g,xb,xa,hv,h1,h2,h3⟩
 ·cases h0
 ·cases hv
  exact⟨b,c,xa,rfl,h1,hb.trans h2,h3⟩
theorem J5 {b c:Nat} (h:w.ownsRow base e size (.slice (zA b) n c) n xs):base<=b/\b < w.heap.size/\n<=c/\c<=maxLen/\∃cur,w.heap[b]?=some (.cells cur e (0,0)):=by
 rcases h.2 with ⟨h0,_⟩ | ⟨g,xa,cur,hv,h1,h2,h3,h4,_⟩
 ·cases h0
 ·cases hv
  refine⟨h1,?_,h3,h4,cur,h2⟩;rcases Nat.lt_or_ge b w.heap.size with hlt | hge
  ·exact hlt
  ·rw [Array.getElem?_eq_none hge] at h2;cases h2
def L1 (f:FnR):List Value:=kD f.n (fun j=>J (f.op j)) (fun j=>J (f.ar j))
def kC:List Value:=[J (-7070),J 0,J (-7070),J 0]
def E4 (g:PgR) (Bk C:Nat->Nat) (n:Nat):List Value :=
 iC n (fun j=>J (g.f j).p) (fun j=>J (g.f j).l) (fun j=>.slice (some ⟨Bk j,0,none⟩) (g.f j).n (C j))
def Y7 (B:Nat) (w:World) (f:FnR) (b c:Nat):Prop:=w.ownsRow B 165 2 (.slice (zA b) (f.n+2) c) (f.n+2) (L1 f++kC)
def jT (g:PgR):Prop:=g.n*40<=140737488351232/\∀i,i < g.n->(g.f i).n*16<=140737488351232/\((g.f i).a=none->(g.f i).n=0/\(g.f i).c=0)
def uY (g:PgR) (w:World) (e:Ending) (w':World):Prop :=
 ∃(Bk C:Nat->Nat) (cb cc:Nat),e=.returned (.agg #[.slice (zA cb) g.n cc]) /\
  w'.ownsRow w.heap.size 163 3 (.slice (zA cb) (g.n+1) cc) (g.n+1) (E4 g Bk C g.n++[J (-7070),J 0,zD]) /\
  (∀j,j < g.n->Y7 w.heap.size w' (g.f j) (Bk j) (C j))/\(∀i j,i < g.n->j < g.n->Bk i=Bk j->i=j)/\L0d w w'
theorem a5e:(Tryz.prog.info? 163).map (fun i=>(i.zero,i.size,i.bytes))=some (some (.agg #[J 0,J 0,zD]),3,40):=by kernel_rfl
theorem a5f:(Tryz.prog.info? 165).map (fun i=>(i.zero,i.size,i.bytes))=some (some (.agg #[J 0,J 0]),2,16):=by kernel_rfl
end
theorem But.drewN' {S:Nat->Prop} {a w:World} (h:But S a w) (n:Nat):But S a (w.drewN n):=⟨h.os,h.tape,h.output,h.size,h.block⟩
def dM (f:FnR) (t:Nat):Int:=if t < f.n then f.op t else -7070
def dL (f:FnR) (t:Nat):Int:=if t < f.n then f.ar t else 0
theorem vQ {B:Nat} {w:World} {f:FnR} {b c:Nat} (h:Y7 B w f b c):∃F,w.rowIs b 165 (c*2) F/\f.n+2<=c/\∀t,t < f.n+2->F (t*2)=J (dM f t)/\F (t*2+1)=J (dL f t):=by
 rcases h.2 with ⟨h0,_⟩ | ⟨g,xc,xb,hv,_,hh,hn,_,hs,ht⟩
 ·cases h0
 ·cases hv
  have xa:∀k,k < (f.n+2)*2->xb[k]?=(L1 f++kC)[k]?:=fun k hk=>by
   rw[<- ht,List.getElem?_take,if_pos hk];simp
  have hl:(L1 f).length=f.n*2:=I6 _ _ _;refine⟨fun k=>xb.getD k (J 0),⟨xb,hh,hs,fun k hk=>?_⟩,hn,fun t htn=>?_⟩
  ·simp only [Array.getD_eq_getD_getElem?];rw [Array.getElem?_eq_getElem R5];rfl
  ·simp only [Array.getD_eq_getD_getElem?]
   rw[xa (t*2) R5,xa (t*2+1) R5];by_cases e:t < f.n
   ·rw [List.getElem?_append_left R5,List.getElem?_append_left R5]
    obtain⟨h1,h2⟩:=eB (a:=fun j=>J (f.op j)) (b:=fun j=>J (f.ar j)) e;unfold L1 dM dL;rw[h1,h2,if_pos e,if_pos e];exact⟨rfl,rfl⟩
   ·rw [List.getElem?_append_right R5,List.getElem?_append_right R5,hl]
    unfold dM dL;rw[if_neg e,if_neg e];obtain rfl | rfl:t=f.n\/t=f.n+1:=by omega
    ·rw [show f.n*2 - f.n*2=0 by omega,show f.n*2+1 - f.n*2=1 by omega];exact ⟨rfl,rfl⟩
    ·rw [show (f.n+1)*2 - f.n*2=2 by omega,show (f.n+1)*2+1 - f.n*2=3 by omega];exact ⟨rfl,rfl⟩
theorem lH (B:Nat) (f:FnR) (b c:Nat) (w:World) (hB:B<=b) (hf:N2 B w f) (hc:Y7 B w f b c) (hn16:f.n*16<=140737488351232) :
  Calls prog 94 #[.slice (zA b) f.n c,.slice f.a f.n f.c] w fun e w'=>e=.returned (.bool true)/\But (·=b) w w':=by
 obtain⟨F0,xc,xk,xj⟩:=vQ hc;have xl:=(show Hid _ from xj);clear xj;have xr:b < w.heap.size:=xc.lt;have xi:(f.n:Int)+2<=(c:Int):=by omega
 have xo:=(J5 hc).2.2.2.1;unfold maxLen at xo;go_enter func94,ntmps94;go_wp2
 go_loopw [6,7] (fun v vi wr=>∃(i:Nat) (F:Nat->Value),i<=f.n+2/\vi=J i/\v=.bool true/\But (·=b) w wr/\wr.rowIs b 165 (c*2) F/\∀t,i<=t->t < f.n+2->F (t*2)=J (dM f t)/\F (t*2+1)=J (dL f t)) (fun _ vi _=>f.n+2 - (intOf vi).toNat)
 case atStart=>exact ⟨0,F0,by omega,rfl,rfl,But.refl _ _,xc,fun t _ ht=>xl.out t ht⟩
 case round =>
  obtain⟨i,F,hi,rfl,rfl,xb,xa,hF⟩:=hrel;have HF:=(show Hid _ from hF);clear hF;have xp:=xb.size;by_cases hlt:i < f.n+2
  ·obtain ⟨e0,e1⟩:=HF.out i (L1c _) hlt
   have xf:(i:Int) < (f.n:Int)+2:=by omega
   have b0:=xa.cell (i:=i*2) R5;have b1:=xa.cell (i:=i*2+1) R5;have xt:=xa.frozen (i*2);have xs:=xa.frozen (i*2+1);rw[e0] at b0;rw[e1] at b1;clear e0 e1;have xm:b < wr.heap.size:=by omega
   have xd:∀(W:World) (u0 u1:Value),But (·=b) w W->W.rowIs b 165 (c*2) F->(∃(i':Nat) (F':Nat->Value),i'<=f.n+2/\Value.int .i64 ((i:Int)+1)=J i'/\But (·=b) w ((W.setCell ⟨b,i*2,none⟩ u0).setCell ⟨b,i*2+1,none⟩ u1) /\
     ((W.setCell ⟨b,i*2,none⟩ u0).setCell ⟨b,i*2+1,none⟩ u1).rowIs b 165 (c*2) F'/\∀t,i'<=t->t < f.n+2->F' (t*2)=J (dM f t)/\F' (t*2+1)=J (dL f t)):=by
    intro W u0 u1 hW hWr;refine⟨i+1,_,by omega,by go_num,(hW.setCell (p:=⟨b,i*2,none⟩) (L4a rfl) _).setCell (p:=⟨b,i*2+1,none⟩) (L4a rfl) _,(hWr.set (i*2) u0).set (i*2+1) u1,fun t ht ht2=>?_⟩;simp only[if_neg (show ¬t*2=i*2 by omega),if_neg (show ¬t*2=i*2+1 by omega),if_neg (show ¬t*2+1=i*2 by omega),if_neg (show ¬t*2+1=i*2+1 by omega)];exact HF.out t R5 ht2
   have xe:=(show Hid _ from xd);clear xd;by_cases hin:i < f.n
   ·obtain ⟨ha,xq,xh⟩:=hf.2 R5
    obtain⟨s0,s1⟩:=xh i hin;have xg:¬f.b=b:=by omega
    rw[<- xb.cell (p:=⟨f.b,_,none⟩) (by show f.b < w.heap.size;omega) xg] at s0 s1;rw[show dM f i=f.op i by simp [dM,hin]] at b0;rw[show dL f i=f.ar i by simp [dL,hin]] at b1;have xn:f.b < wr.heap.size:=by omega
    rw[ha];clear ha xh;go_wp2_with fail;go_quiet (fail)
    go_wp2_with fail;go_roundw
    case rel =>
     obtain⟨i',F',q1,q2,q3,q4,q5⟩:=xe.out _ (J 26) (J (-7070)) ((xb.alloc _).drewN' nq) (xa.alloc _);exact⟨i',F',q1,q2,rfl,q3,q4,q5⟩
    case measure=>simp [intOf];omega
   ·rw [show dM f i = -7070 by simp [dM,hin]] at b0
    rw[show dL f i=0 by simp [dL,hin]] at b1;go_wp2_with fail;go_quiet (fail)
    go_wp2_with fail;go_roundw
    case rel =>
     obtain⟨i',F',q1,q2,q3,q4,q5⟩:=xe.out _ (J 26) (J (-7070)) ((xb.alloc _).drewN' nq) (xa.alloc _);exact⟨i',F',q1,q2,rfl,q3,q4,q5⟩
    case measure=>simp [intOf];omega
  ·have xf:¬(i:Int) < (f.n:Int)+2:=by omega
   go_wp2_with fail;go_ret;exact⟨rfl,xb⟩
def aV (B:Nat) (w:World) (g:PgR) (Bk C:Nat->Nat) (cb cc:Nat):Prop :=
 w.ownsRow B 163 3 (.slice (zA cb) (g.n+1) cc) (g.n+1) (E4 g Bk C g.n++[J (-7070),J 0,zD]) /\
  (∀j,j < g.n->Y7 B w (g.f j) (Bk j) (C j))/\∀i j,i < g.n->j < g.n->Bk i=Bk j->i=j
theorem a1E {B:Nat} {w:World} {g:PgR} {Bk C:Nat->Nat} {cb cc:Nat} (h:aV B w g Bk C cb cc):∃F,w.rowIs cb 163 (cc*3) F/\g.n+1<=cc /\
  (∀t,t < g.n->F (t*3)=J (g.f t).p/\F (t*3+1)=J (g.f t).l/\F (t*3+2)=.slice (some ⟨Bk t,0,none⟩) (g.f t).n (C t)) /\
  F (g.n*3)=J (-7070)/\F (g.n*3+1)=J 0/\F (g.n*3+2)=.slice none 0 0:=by
 rcases h.1.2 with ⟨h0,_⟩ | ⟨gb,xc,xb,hv,_,hh,hn,_,hs,ht⟩
 ·cases h0
 ·cases hv
  have xa:∀k,k < (g.n+1)*3->xb[k]?=(E4 g Bk C g.n++[J (-7070),J 0,zD])[k]?:=fun k hk=>by
   rw[<- ht,List.getElem?_take,if_pos hk];simp
  have hl:(E4 g Bk C g.n).length=g.n*3:=N0 _ _ _ _;refine⟨fun k=>xb.getD k (J 0),⟨xb,hh,hs,fun k hk=>?_⟩,hn,fun t htn=>?_,?_,?_,?_⟩
  ·simp only [Array.getD_eq_getD_getElem?];rw [Array.getElem?_eq_getElem R5];rfl
  ·simp only [Array.getD_eq_getD_getElem?]
   rw[xa (t*3) R5,xa (t*3+1) R5,xa (t*3+2) R5,List.getElem?_append_left R5,List.getElem?_append_left R5,List.getElem?_append_left R5];unfold E4;obtain⟨h1,h2,h3⟩:=rI (a:=fun j=>J (g.f j).p) (b:=fun j=>J (g.f j).l) (c:=fun j=>.slice (some ⟨Bk j,0,none⟩) (g.f j).n (C j)) htn;rw[h1,h2,h3];exact⟨rfl,rfl,rfl⟩
  all_goals
   simp only[Array.getD_eq_getD_getElem?];rw[xa _ R5,List.getElem?_append_right R5,hl]
  ·rw [show g.n*3 - g.n*3=0 by omega];rfl
  ·rw [show g.n*3+1 - g.n*3=1 by omega];rfl
  ·rw [show g.n*3+2 - g.n*3=2 by omega];rfl
theorem qQ (B B2:Nat) (g:PgR) (Bk C:Nat->Nat) (cb cc:Nat) (w:World) (hB:B<=w.heap.size) (hg:I9 B w g) (hr:jT g) (hc:aV B w g Bk C cb cc) (hB2:B2<=w.heap.size) (hc2:cb < B2/\∀j,j < g.n->Bk j < B2) :
  Calls prog 57 #[.agg #[.slice (zA cb) g.n cc],.agg #[.slice g.a g.n g.c]] w fun e w'=>e=.returned (.bool true)/\But (fun k=>B<=k/\k < B2) w w':=by
 obtain⟨F0,xd,yq,yg,ya,yl,ye⟩:=a1E hc;have yn:=(show Hid _ from yg);clear yg;obtain⟨xj,yr,_,xs,yp,xm⟩:=J5 hc.1;unfold maxLen at xs;have hn:=hg.1;have yd:(g.n:Int)+1<=(cc:Int):=by omega
 have b0:=xd.cell (i:=g.n*3) R5;have b2:=xd.cell (i:=g.n*3+2) R5;rw[ya] at b0;rw[ye] at b2;clear ya yl ye;have v0:((w.alloc (Obj.cells #[.slice (zA cb) g.n cc] 41)).alloc (Obj.cells #[.slice g.a g.n g.c] 41)).cell? ⟨w.heap.size,0,none⟩=some (.slice (zA cb) g.n cc):=by go_simp
 have v1:((w.alloc (Obj.cells #[.slice (zA cb) g.n cc] 41)).alloc (Obj.cells #[.slice g.a g.n g.c] 41)).cell? ⟨w.heap.size+1,0,none⟩=some (.slice g.a g.n g.c):=by go_simp
 have xo:But (fun k=>B<=k/\k < B2) w ((w.alloc (Obj.cells #[.slice (zA cb) g.n cc] 41)).alloc (Obj.cells #[.slice g.a g.n g.c] 41)):=((But.refl _ _).alloc _).alloc _;have xl:((w.alloc (Obj.cells #[.slice (zA cb) g.n cc] 41)).alloc (Obj.cells #[.slice g.a g.n g.c] 41)).rowIs cb 163 (cc*3) F0:=(xd.alloc _).alloc _;have zb:((w.alloc (Obj.cells #[.slice (zA cb) g.n cc] 41)).alloc (Obj.cells #[.slice g.a g.n g.c] 41)).heap.size=w.heap.size+2:=by simp
 have yj:∀W:World,(binOp .eql 161 zD zD).run prog W=.ok (.bool true) W:=fun W=>Go.Lib.run_eql_slice_nil W 161 165 none 0 0 0 0 underlying161
 have xk:Hid (∀k,k < w.heap.size->((w.alloc (Obj.cells #[.slice (zA cb) g.n cc] 41)).alloc (Obj.cells #[.slice g.a g.n g.c] 41)).heap[k]?=w.heap[k]?):=fun k hk=>by
  rw[Below.heap_alloc _ _ _ Q9,Below.heap_alloc _ _ _ hk]
 go_enter func57,ntmps57;go_wp2
 clear v0 yj b0 b2;generalize ((w.alloc (Obj.cells #[.slice (zA cb) g.n cc] 41)).alloc (Obj.cells #[.slice g.a g.n g.c] 41))=W1 at *
 have xr:Hid (∀i j,i < g.n->j < g.n->Bk i=Bk j->i=j):=hc.2.2;have yo:Hid (∀j,j < g.n->Y7 B w (g.f j) (Bk j) (C j)):=hc.2.1;have xg:∀j,j < g.n->Bk j≠cb/\B<=Bk j/\Bk j < w.heap.size/\Bk j < B2:=fun j hj=>by
  obtain⟨h1,h2,_,_,za,xq⟩:=J5 (hc.2.1 j hj);refine⟨fun e=>?_,h1,h2,hc2.2 j hj⟩;rw[e,xm] at xq;have:=L5b xq;simp at this
 have xt:=(show Hid _ from xg);clear xg;go_loopw [6,7] (fun v vi wr=>∃(i:Nat) (F:Nat->Value),i<=g.n/\vi=J i/\v=.bool true/\But (fun k=>B<=k/\k < B2) W1 wr/\wr.rowIs cb 163 (cc*3) F /\
   (∀t,i<=t->t < g.n->F (t*3)=J (g.f t).p/\F (t*3+1)=J (g.f t).l/\F (t*3+2)=.slice (some ⟨Bk t,0,none⟩) (g.f t).n (C t)) /\
   ∀t,i<=t->t < g.n->Y7 B wr (g.f t) (Bk t) (C t)) (fun _ vi _=>g.n - (intOf vi).toNat)
 case atStart=>exact ⟨0,F0,L4c _,rfl,rfl,But.refl _ _,xl,fun t _ ht=>yn.out t ht,fun t _ ht=>K5 (yo.out t ht) (xk.out _ (xt.out t ht).2.2.1)⟩
 case round =>
  obtain⟨i,F,hi,rfl,rfl,xe,xc,hF,xz⟩:=hrel;have HF:=(show Hid _ from hF);clear hF;have xp:=(show Hid _ from xz);clear xz;have yu:=xe.size;have xf:But (fun k=>B<=k/\k < B2) w wr:=xo.trans xe;have xh:Below B w wr:=xf.below hB (fun k hk=>by omega);have k1:wr.cell? ⟨w.heap.size+1,0,none⟩=some (.slice g.a g.n g.c):=by rw [xe.cell (by show w.heap.size+1 < _;omega) (by show ¬(B<=w.heap.size+1/\w.heap.size+1 < B2);omega)];exact v1
  have yy:w.heap.size+1 < wr.heap.size:=by omega
  by_cases hlt:i < g.n
  ·obtain ⟨ha,hb,xi⟩:=hg.2.1 R5
   obtain⟨c0,c1,c2⟩:=xi i hlt;rw[<- xh.cell (p:=⟨g.b,_,none⟩) hb] at c0 c1 c2;have yz:g.b < wr.heap.size:=by omega
   obtain⟨e0,e1,e2⟩:=HF.out i (L1c _) hlt;have d0:=xc.cell (i:=i*3) R5;have d1:=xc.cell (i:=i*3+1) R5;have d2:=xc.cell (i:=i*3+2) R5;have z0:=xc.frozen (i*3);have z1:=xc.frozen (i*3+1);have z2:=xc.frozen (i*3+2);rw[e0] at d0;rw[e1] at d1;rw[e2] at d2;clear e0 e1 e2 xi;have xu:cb < wr.heap.size:=xc.lt;have yk:(i:Int) < (g.n:Int)+1:=by omega
   rw[ha] at k1;have HA:=(show Hid _ from ha);clear ha;have xv:=(hr.2 i hlt).1;obtain⟨yi,yc,_,ym⟩:=xt.out i hlt;have yf:Hid (∀W,(W.heap.size=wr.heap.size)->(∀k:Nat,W.heap[k]?=wr.heap[k]?)->Calls prog 94 #[.slice (some ⟨Bk i,0,none⟩) (g.f i).n (C i),.slice (g.f i).a (g.f i).n (g.f i).c] W fun e w'=>e=.returned (.bool true)/\But (·=Bk i) W w'):=by
    intro W hWs hW;have ys:N2 B W (g.f i):=((hg.2.2 i hlt).below xh).below ⟨rfl,rfl,rfl,Nat.le_of_eq rfl,fun k _=>rfl⟩ |> fun h=>⟨h.1,fun hn=>by
     obtain⟨p1,p2,p3⟩:=h.2 hn;refine⟨p1,p2,fun j hj=>?_⟩;rw[L0b (w:=wr) (w':=W) (hW _),L0b (w:=wr) (w':=W) (hW _)];exact p3 j hj⟩
    exact lH B (g.f i) (Bk i) (C i) W yc ys (K5 (xp.out i (L1c _) hlt) (hW _)) xv
   go_wp2_with fail;go_quiet (fail)
   go_wp2_with fail;go_region_with ((go_at_call 94;refine (yf.out _ ?_ ?_).mono ?_;exact rfl;exact (fun _=>rfl);rintro e w2 ⟨rfl,xa⟩))
   all_goals
    have xx:¬cb=Bk i:=fun e=>yi e.symm
    have yt:wr.heap.size<=w2.heap.size:=xa.size;have xb:w2.rowIs cb 163 (cc*3) F:=xc.of_block (xa.block cb xu xx);have yh:cb < w2.heap.size:=by omega
    have y0:=xb.cell (i:=i*3) R5;have y1:=xb.cell (i:=i*3+1) R5;have y2:=xb.cell (i:=i*3+2) R5;have yw:=xb.frozen (i*3);have yv:=xb.frozen (i*3+1);have yx:=xb.frozen (i*3+2);have xy:But (fun k=>B<=k/\k < B2) W1 w2:=xe.trans ⟨xa.os,xa.tape,xa.output,xa.size,fun k hk hs=>xa.block k hk (fun e=>hs ⟨by rw [e];exact yc,by rw [e];exact ym⟩)⟩;have xn:∀t,i+1<=t->t < g.n->Y7 B w2 (g.f t) (Bk t) (C t):=fun t h1 h2=>by
     have yb:=xp.out t R5 h2;refine K5 yb (xa.block (Bk t) (J5 yb).2.1 (fun e=>?_));have:=xr.out t i h2 hlt e;omega
    have xw:=(show Hid _ from xn);clear xn;clear xa d0 d1 d2 c0 c1 c2 z0 z1 z2 k1 yf;go_wp2_with fail;go_roundw
    case rel =>
     refine⟨i+1,_,by omega,by go_num,rfl,((xy.setCell (p:=⟨cb,i*3,none⟩) (L4a ⟨xj,hc2.1⟩) _).setCell (p:=⟨cb,i*3+1,none⟩) (L4a ⟨xj,hc2.1⟩) _).setCell (p:=⟨cb,i*3+2,none⟩) (L4a ⟨xj,hc2.1⟩) _,
      ((xb.set (i*3) _).set (i*3+1) _).set (i*3+2) _,fun t h1 h2=>?_,fun t h1 h2=>K5 (xw.out t h1 h2) ?_⟩
     ·simp only [if_neg (show ¬t*3=i*3 by omega),if_neg (show ¬t*3=i*3+1 by omega),if_neg (show ¬t*3=i*3+2 by omega),if_neg (show ¬t*3+1=i*3 by omega),if_neg (show ¬t*3+1=i*3+1 by omega),if_neg (show ¬t*3+1=i*3+2 by omega),if_neg (show ¬t*3+2=i*3 by omega),if_neg (show ¬t*3+2=i*3+1 by omega),if_neg (show ¬t*3+2=i*3+2 by omega)]
      exact HF.out t R5 h2
     ·have:=(xt.out t h2).1
      rw[Below.heap_setCell _ _ _ _ this,Below.heap_setCell _ _ _ _ this,Below.heap_setCell _ _ _ _ this]
    case measure=>simp [intOf];omega
  ·go_wp2_with fail
   go_ret;exact⟨rfl,xf⟩
theorem dE {P:Program} (w:World) {ops:Array Oper} {rest:List Oper} {o:Oper} {a:Act} {Q:Exit->Act->World->Prop} (hgd:o.guard=none) (s x:Operand) (t:TypeId)
  (ho:o.op=.call { callee:=.builtin .append,args:=#[s,x],argTypes:=#[t,t] })
  (base:Nat) (e:TypeId) (i:TypeInfo) (z:Value) (size bytes:Nat) (ht:P.underlying t=some (.slice e)) (hi:P.info? e=some i) (hz:i.zero=some z)
  (hsize:i.size=size) (hby:i.bytes=bytes) (hzs:z.cells.size=size) (hsz:0 < size) (hs:a.eval s=zD)
  (sa:Option Addr) (m c:Nat) (news:List Value) (hx:a.eval x=.slice sa m c) (hl:news.length=m*size) (hnone:sa=none->m=0/\c=0) (hsrc:∀ad,sa=some ad->∀j u,news[j]?=some u->w.cell? (ad.add j)=some u)
  (h1:∀u∈news,u.oneCell'=true) (h63:m<=maxLen) (hbytes:m*bytes<=140737488355328) (hbase:base<=w.heap.size)
  (h:∀v' w',w'.ownsRow base e size v' m news->w.grownBy w' none->wpList P ops Q rest (a.put o.dst v') w'):wpList P ops Q (o::rest) a w:=by
 cases sa with
 | some ad =>
  refine wpList_append_own w hgd s x t ho base e i z size bytes ht hi hz hsize hby hzs hsz zD 0 [] hs (World.ownsRow_nil _ _ _ _) ad m c news hx hl (hsrc ad rfl) h1 R5 (by simpa using hbytes) hbase fun v' w' h2 h3 _=>?_
  simp only[Nat.zero_add,List.nil_append] at h2;exact h v' w' h2 h3
 | none =>
  obtain⟨rfl,rfl⟩:=hnone rfl;obtain rfl:news=[]:=List.eq_nil_of_length_eq_zero (by simpa using hl);refine wpList_plain hgd fun _ hK=>?_
  have hr:=run_append_owned_none (P:=P) w base t o.type e i size ht hi zD 0 [] (World.ownsRow_nil _ _ _ _);unfold Oper.wp execOp;simp only[ho,resolve,invoke,builtin,Sem.run_bind,Sem.run_pure,Result.andThen_ok,List.map_toArray,List.map_cons,List.map_nil,hs,hx,hr];exact hK _ _ (h zD w (World.ownsRow_nil _ _ _ _) (World.grownBy.refl _ _))
section
variable {Bk C:Nat->Nat} {W1 w2 w5 wr:World} {cb cc i lb lc q:Nat} {cv:Value} {g:PgR}
def yE (g:PgR) (q:Nat) (W1 wr:World) (i:Nat):Prop :=
 ∃(Bk C:Nat->Nat) (cv:Value),wr.cell? ⟨q,0,none⟩=some cv/\wr.frozen? ⟨q,0,none⟩=false/\wr.ownsRow (q+1) 163 3 cv i (E4 g Bk C i) /\
  (∀j,j < i->Y7 (q+1) wr (g.f j) (Bk j) (C j))/\(∀j j',j < i->j' < i->Bk j=Bk j'->j=j')/\Below q W1 wr/\q+1<=wr.heap.size
theorem vZ:∀u∈kC,u.oneCell'=true:=by
 intro u hu;simp only[kC,List.mem_cons,List.not_mem_nil,or_false] at hu;rcases hu with rfl | rfl | rfl | rfl <;> rfl
theorem oN (p l:Int) (lb n lc:Nat):∀u∈[Value.int .i64 p,J l,.slice (zA lb) n lc],u.oneCell'=true:=by
 intro u hu;simp only[List.mem_cons,List.not_mem_nil,or_false] at hu;rcases hu with rfl | rfl | rfl <;> rfl
theorem uC:∀u∈[Value.int .i64 (-7070),J 0,zD],u.oneCell'=true:=by
 intro u hu;simp only[List.mem_cons,List.not_mem_nil,or_false] at hu;rcases hu with rfl | rfl | rfl <;> rfl
theorem kG {B:Nat} {w:World} {f:FnR} (hf:N2 B w f):∀ad,f.a=some ad->∀j u,(L1 f)[j]?=some u->w.cell? (ad.add j)=some u:=by
 intro ad had j u hu;have hj:j < f.n*2:=by
  have:=(L1a.1 hu).1;rwa [show (L1 f).length=f.n*2 from I6 _ _ _] at this
 obtain⟨h1,_,h3⟩:=hf.2 R5;rw[had] at h1;obtain rfl:=L5b h1;rw[Go.WideShapes.add_plain];have h2:=h3 (j / 2) R5;have hg:=eB (a:=fun j=>J (f.op j)) (b:=fun j=>J (f.ar j)) (show j / 2 < f.n by omega);rcases Nat.mod_two_eq_zero_or_one j with hm | hm
 ·have e:j / 2*2=j:=by omega
  rw[e] at h2 hg;unfold L1 at hu;rw[hg.1] at hu;rw[<- L5b hu];exact h2.1
 ·have e:j / 2*2+1=j:=by omega
  have e':f.o+j / 2*2+1=f.o+j:=by omega
  rw[e'] at h2;rw[e] at hg;unfold L1 at hu;rw[hg.2] at hu;rw[<- L5b hu];exact h2.2
theorem a2O (o:Obj) (hown:wr.ownsRow (q+1) 163 3 cv i (E4 g Bk C i))
  (hcopy:∀j,j < i->Y7 (q+1) wr (g.f j) (Bk j) (C j)) (hinj:∀j j',j < i->j' < i->Bk j=Bk j'->j=j') (hbel:Below q W1 wr) (hsz:q+1<=wr.heap.size) (hB2w:L0d wr w2)
  (hcopyN:Y7 (wr.heap.size+1) w2 (g.f i) lb lc) (hgrow:(w2.alloc o).grownBy w5 cv.ownBlock)
  (hown5:w5.ownsRow (q+1) 163 3 (.slice (zA cb) (i+1) cc) (i+1) (E4 g Bk C i++[J (g.f i).p,J (g.f i).l,.slice (zA lb) (g.f i).n lc]))
  (hq:w5.cell? ⟨q,0,none⟩=some cv) (hqf:w5.frozen? ⟨q,0,none⟩=false) :
  yE g q W1 (w5.setCell ⟨q,0,none⟩ (.slice (zA cb) (i+1) cc)) (i+1):=by
 have xa:=hown.lt;have xh:=hB2w.size;obtain⟨xf,xc,_,_,_⟩:=J5 hcopyN;have xi:w2.heap.size+1<=w5.heap.size:=by have:=hgrow.size;simpa using this
 have xd:∀b,b < w2.heap.size->cv.ownBlock≠some b->b≠q->(w5.setCell ⟨q,0,none⟩ (.slice (zA cb) (i+1) cc)).heap[b]?=w2.heap[b]?:=fun b hb hne hbq=>by
  rw[Below.heap_setCell _ _ _ _ hbq,hgrow.block b Q9 (fun e=>hne e.symm)];exact Below.heap_alloc _ _ _ hb
 refine⟨fun j=>if j=i then lb else Bk j,fun j=>if j=i then lc else C j,.slice (zA cb) (i+1) cc,by go_simp,by go_simp,?_,fun j hj=>?_,fun j j' hj hj' he=>?_,?_,by simp;omega⟩
 ·have h1:=ownsRow_setCell_below hown5 (a:=⟨q,0,none⟩) R6 (.slice (zA cb) (i+1) cc)
  have h2:E4 g (fun j=>if j=i then lb else Bk j) (fun j=>if j=i then lc else C j) (i+1)=E4 g Bk C i++[J (g.f i).p,J (g.f i).l,.slice (zA lb) (g.f i).n lc]:=by
   unfold E4;rw[aZ,mG (c':=fun j=>.slice (some ⟨Bk j,0,none⟩) (g.f j).n (C j)) (fun j hj=>by simp only [if_neg (show ¬j=i by omega)])];simp
  rw[h2];exact h1
 ·by_cases e:j=i
  ·subst e
   simp only[if_pos];refine E1 (K5 hcopyN (xd lb xc (fun h=>?_) R5)) R5;have:=(xa lb h).2;omega
  ·simp only [if_neg e]
   have hc:=hcopy j R5;obtain⟨h1,h2,_,_,xg,xb⟩:=J5 hc;refine K5 hc ((xd (Bk j) R5 (fun h=>?_) R5).trans (hB2w.block _ h2));rcases hown.2 with ⟨h0,_⟩ | ⟨gb,xj,xe,hv,_,hh,_⟩
   ·rw [h0] at h;cases h
   ·rw [hv] at h
    have:gb=Bk j:=by simpa [Value.ownBlock] using h
    rw[this,xb] at hh;have:=L5b hh;simp at this
 ·have lt:∀j,j < i->Bk j < lb:=fun j hj=>by have:=(J5 (hcopy j hj)).2.1;omega
  by_cases e:j=i
  ·by_cases e':j'=i
   ·omega
   ·have:=lt j' R5;simp only [if_pos e,if_neg e'] at he;omega
  ·by_cases e':j'=i
   ·have:=lt j R5;simp only [if_neg e,if_pos e'] at he;omega
   ·simp only [if_neg e,if_neg e'] at he;exact hinj j j' R5 R5 he
 ·refine Below.setCell (p:=⟨q,0,none⟩) ?_ (L1c _) _
  have h2:Below q W1 w2:=hbel.trans (hB2w.mono R5);exact (h2.alloc R5 o).grown hgrow Q9 (fun k hk=>by have:=(xa k hk).1;omega)
theorem wQ {o:Obj} (hown:wr.ownsRow (q+1) 163 3 cv i (E4 g Bk C i))
  (hcopy:∀j,j < i->Y7 (q+1) wr (g.f j) (Bk j) (C j)) (hinj:∀j j',j < i->j' < i->Bk j=Bk j'->j=j') (hbel:Below q W1 wr) (hsz:q+1<=wr.heap.size) (hB2w:L0d wr w2)
  (hcopyN:Y7 (wr.heap.size+1) w2 (g.f i) lb lc) (hq2:w2.cell? ⟨q,0,none⟩=some cv) (hf2:w2.frozen? ⟨q,0,none⟩=false) (hgrow:(w2.alloc o).grownBy w5 cv.ownBlock)
  (hown5:w5.ownsRow (q+1) 163 3 (.slice (zA cb) (i+1) cc) (i+1) (E4 g Bk C i++[J (g.f i).p,J (g.f i).l,.slice (zA lb) (g.f i).n lc])) :
  w5.cell? ⟨q,0,none⟩=some cv/\w5.frozen? ⟨q,0,none⟩=false/\yE g q W1 (w5.setCell ⟨q,0,none⟩ (.slice (zA cb) (i+1) cc)) (i+1):=by
 have xd:=hB2w.size;have xc:some q≠cv.ownBlock:=fun e=>by have:=(hown.lt q e.symm).1;omega
 have xb:w5.cell? ⟨q,0,none⟩=some cv:=by
  rw[hgrow.cell_far ⟨q,0,none⟩ Q9 xc,<- hq2];exact L0b (Below.heap_alloc _ _ _ (by show q < _;omega))
 have xa:w5.frozen? ⟨q,0,none⟩=false:=by
  rw[hgrow.frozen_far ⟨q,0,none⟩ Q9 xc,<- hf2];exact L0c (Below.heap_alloc _ _ _ (by show q < _;omega))
 exact⟨xb,xa,a2O o hown hcopy hinj hbel hsz hB2w hcopyN hgrow hown5 xb xa⟩
theorem a5p (g:PgR) (w:World) (hg:I9 w.heap.size w g) (hr:jT g) :
  Calls prog 54 #[.agg #[.slice g.a g.n g.c]] w fun e w'=>uY g w e w':=by
 have hn:=hg.1;have zo:=hr.1;obtain⟨yr,xy,xz,yb,xx⟩:=info_parts a5e;obtain⟨yp,xw,xt,xs,xr⟩:=info_parts a5f;go_enter func54,ntmps54;go_wp2
 generalize hqW1:(((w.alloc (Obj.cells #[.slice g.a g.n g.c] 41)).alloc (Obj.cells #[zD] 41)).alloc (Obj.cells #[zD] 41))=W1 at *
 have p0:W1.cell? ⟨w.heap.size,0,none⟩=some (.slice g.a g.n g.c):=by subst hqW1;go_simp
 have r0:W1.cell? ⟨w.heap.size+1,0,none⟩=some zD:=by subst hqW1;go_simp
 have rf:W1.frozen? ⟨w.heap.size+1,0,none⟩=false:=by subst hqW1;go_simp
 have q0:W1.cell? ⟨w.heap.size+1+1,0,none⟩=some zD:=by subst hqW1;go_simp
 have qf:W1.frozen? ⟨w.heap.size+1+1,0,none⟩=false:=by subst hqW1;go_simp
 have xg:L0d w W1:=by subst hqW1;repeat (first | exact L3b _ _ | refine L3a ?_ Q1 _)
 have yz:W1.heap.size=w.heap.size+1+1+1:=by subst hqW1;simp
 clear hqW1;obtain⟨q,hq⟩:∃q,q=w.heap.size+1+1:=⟨_,rfl⟩
 rw[<- hq] at q0 qf yz ⊢;have qa:w.heap.size+1 < q:=by omega
 have qg:w.heap.size < q:=by omega
 clear hq;go_loopw [4] (fun v wr=>∃i:Nat,i<=g.n/\v=J i/\yE g q W1 wr i) (fun v _=>g.n - (intOf v).toNat)
 case atStart=>exact ⟨0,L4c _,rfl,fun _=>0,fun _=>0,zD,q0,qf,World.ownsRow_nil _ _ _ _,fun j hj=>by omega,fun j j' hj=>by omega,L3b _ _,by omega⟩
 case round =>
  obtain⟨i,hi,rfl,Bk,C,cv,zp,yt,xb,xj,xv,xa,yv⟩:=hrel;have xk:L0d w wr:=xg.trans (xa.mono R5);have k0:wr.cell? ⟨w.heap.size,0,none⟩=some (.slice g.a g.n g.c):=by rw [xa.cell (by show w.heap.size < q;omega)];exact p0
  have zz:w.heap.size < wr.heap.size:=by omega
  have qd:q < wr.heap.size:=by omega
  have xh:=(show Hid _ from xj);clear xj;have xp:=(show Hid _ from xv);clear xv;by_cases hlt:i < g.n
  ·obtain ⟨ha,hb,hc⟩:=hg.2.1 R5
   obtain⟨c0,c1,c2⟩:=hc i hlt;rw[<- xk.cell (p:=⟨g.b,_,none⟩) hb] at c0 c1 c2;clear hc;have qc:g.b < wr.heap.size:=by omega
   rw[ha] at k0;have HA:=(show Hid _ from ha);clear ha;have yj:N2 w.heap.size wr (g.f i):=(hg.2.2 i hlt).below xk;obtain⟨zb,xi⟩:=hr.2 i hlt;have xl:N2 w.heap.size (wr.alloc (Obj.cells #[J (g.f i).p,J (g.f i).l,.slice (g.f i).a (g.f i).n (g.f i).c] 163)) (g.f i):=yj.below ((L3b _ _).alloc R5 _);have yh:=(show Hid _ from xi);clear xi;go_wp2_with (at_builtin;refine dE _ rfl (.tmp 19) (.tmp 21) 161 rfl (wr.heap.size+1) 165 yp _ 2 16 underlying161 xw xt xs xr rfl R4 rfl (g.f i).a (g.f i).n (g.f i).c (L1 (g.f i)) rfl (I6 _ _ _) yh.out (kG xl) lJ Q7 R5 R6 ?_)
   intro lv w1 hown1 hgrow1;have yo:(wr.alloc (Obj.cells #[J (g.f i).p,J (g.f i).l,.slice (g.f i).a (g.f i).n (g.f i).c] 163)).heap.size=wr.heap.size+1:=by simp
   have ys:Below (wr.alloc (Obj.cells #[J (g.f i).p,J (g.f i).l,.slice (g.f i).a (g.f i).n (g.f i).c] 163)).heap.size (wr.alloc (Obj.cells #[J (g.f i).p,J (g.f i).l,.slice (g.f i).a (g.f i).n (g.f i).c] 163)) w1:=⟨hgrow1.os,hgrow1.tape,hgrow1.output,hgrow1.size,fun k hk=>hgrow1.block k hk R6⟩;have yl:(wr.alloc (Obj.cells #[J (g.f i).p,J (g.f i).l,.slice (g.f i).a (g.f i).n (g.f i).c] 163)).heap.size<=w1.heap.size:=hgrow1.size
   have xo:=hown1.lt;have ya:=(show Hid _ from xo);clear xo hgrow1;go_wp2_with (at_builtin;go_must (refine wpList_append_lies _ rfl (.tmp 23) (.tmp 26) 161 rfl (wr.heap.size+1) 165 yp _ 2 16 underlying161 xw xt xs xr rfl R4 lv (g.f i).n (L1 (g.f i)) rfl (hown1.alloc _) ⟨w1.heap.size,0,none⟩ 2 2 kC rfl rfl (World.news_of_block (cs:=#[J (-7070),J 0,J (-7070),J 0]) (t:=165) (fr:=(0,0)) (Go.Deep.blk_alloc_new _ _)) vZ R5 Q7 R5 Q9 (w1.heap.size+1) R6 ?_))
   intro lb lc w2 hown2 hgrow2 hat2 hlt2;have xd:Below (wr.alloc (Obj.cells #[J (g.f i).p,J (g.f i).l,.slice (g.f i).a (g.f i).n (g.f i).c] 163)).heap.size (wr.alloc (Obj.cells #[J (g.f i).p,J (g.f i).l,.slice (g.f i).a (g.f i).n (g.f i).c] 163)) w2:=ys.trans ⟨hgrow2.os,hgrow2.tape,hgrow2.output,L5a R6 hgrow2.size,fun k hk=>by
    rw[hgrow2.block k Q9 (fun e=>by have:=(ya.out k e.symm).1;omega)];exact Below.heap_alloc _ _ _ R5⟩
   have xm:Y7 (wr.heap.size+1) w2 (g.f i) lb lc:=hown2;obtain⟨xu,zl,zx,zu,_⟩:=J5 hown2;have yc:w2.ownsRow (q+1) 163 3 cv i (E4 g Bk C i):=by
    refine (xb.alloc _).kept (row:=none) ⟨xd.os,xd.tape,xd.output,xd.size,fun k hk _=>xd.block k hk⟩ ?_
    cases hv:cv.ownBlock with
    | none=>exact L4a rfl
    | some k=>exact L4b R6
   have x0:w2.cell? ⟨wr.heap.size,0,none⟩=some (J (g.f i).p):=by rw [xd.cell R6];go_simp
   have x1:w2.cell? ⟨wr.heap.size,1,none⟩=some (J (g.f i).l):=by rw [xd.cell R6];go_simp
   have x2:w2.cell? ⟨wr.heap.size,2,none⟩=some (.slice (g.f i).a (g.f i).n (g.f i).c):=by rw [xd.cell R6];go_simp
   have xq:w2.cell? ⟨q,0,none⟩=some cv:=by rw [xd.cell Q9];go_simp
   have xf:w2.frozen? ⟨q,0,none⟩=false:=by rw [xd.frozen Q9];go_simp
   have yi:L0d wr w2:=((L3b _ _).alloc (L1c _) _).trans (xd.mono R6);have zw:wr.heap.size+1<=w2.heap.size:=by rw [<- yo];exact xd.size
   have zv:((g.f i).n:Int)<=(lc:Int):=by omega
   have zk:wr.heap.size+1<=lb:=xu;clear hgrow2 hown1 ys ya yl hat2 xd c0 c1 c2 k0 zp yt hown2 xl yo xu;obtain⟨fb,ye⟩:∃fb,fb=wr.heap.size:=⟨_,rfl⟩
   rw[<- ye] at x0 x1 x2 ⊢;have zj:fb < w2.heap.size:=by omega
   have za:q < w2.heap.size:=by omega
   have ze:q < fb:=by omega
   have xc:∀k,cv.ownBlock=some k->q+1<=k/\k < wr.heap.size:=xb.lt
   have yx:=(show Hid _ from xc);clear xc;have qb:=(show Hid _ from ye);clear ye;go_wp2_with fail;go_region_law ((refine step_append_lies _ rfl (.tmp 29) (.tmp 40) 39 rfl (q+1) 163 yr _ 3 40 underlying39 xy xz yb xx rfl R4 cv i (E4 g Bk C i) (by first | rfl | simp [Act.eval,Act.put]) (by exact yc.alloc _) ⟨w2.heap.size,0,none⟩ 1 1 [J (g.f i).p,J (g.f i).l,.slice (zA lb) (g.f i).n lc] (by first | rfl | simp [Act.eval,Act.put]) rfl (World.news_of_block (cs:=#[J (g.f i).p,J (g.f i).l,.slice (zA lb) (g.f i).n lc]) (t:=163) (fr:=(0,0)) (by exact Go.Deep.blk_alloc_new _ _)) (oN _ _ _ _ _) R5 Q7 R5 Q9 (w2.heap.size+1) R6 ?_;intro cb cc w5 hown5 hgrow5 hat5 hlt5;obtain ⟨yq,yf,zi⟩:=wQ xb xh.out xp.out xa yv yi xm xq xf ⟨hgrow5.os,hgrow5.tape,hgrow5.output,hgrow5.size,hgrow5.block⟩ hown5;clear hown5 hgrow5 hat5 hlt5))
   all_goals
    go_wp2_with fail;go_roundw
    case rel=>exact ⟨i+1,by omega,by go_num,zi⟩
    case measure=>simp [intOf];omega
  ·have yw:i=g.n:=by omega
   subst yw;clear k0;have zt:w.heap.size+1 < wr.heap.size:=by omega
   have k0:wr.cell? ⟨w.heap.size,0,none⟩=some (.slice g.a g.n g.c):=by rw [xa.cell (by show w.heap.size < q;omega)];exact p0
   have m0:wr.cell? ⟨w.heap.size+1,0,none⟩=some zD:=by rw [xa.cell (by show w.heap.size+1 < q;omega)];exact r0
   have mf:wr.frozen? ⟨w.heap.size+1,0,none⟩=false:=by rw [xa.frozen (by show w.heap.size+1 < q;omega)];exact rf
   go_wp2_with (at_builtin;go_must (refine wpList_append_lies _ rfl (.tmp 44) (.tmp 46) 39 rfl (q+1) 163 yr _ 3 40 underlying39 xy xz yb xx rfl R4 cv g.n (E4 g Bk C g.n) rfl (xb.alloc _) ⟨wr.heap.size,0,none⟩ 1 1 [J (-7070),J 0,zD] rfl rfl (World.news_of_block (cs:=#[J (-7070),J 0,zD]) (t:=163) (fr:=(0,0)) (Go.Deep.blk_alloc_new _ _)) uC R5 Q7 R5 Q9 (wr.heap.size+1) R6 ?_))
   intro cb cc w5 hown5 hgrow5 hat5 hlt5;have xc:=xb.lt;have xn:∀b,b < q+1->some b≠cv.ownBlock:=fun b hb e=>by have:=(xc b e.symm).1;omega
   have qh:wr.heap.size+1<=w5.heap.size:=by have:=hgrow5.size;simpa using this
   have z0:w5.cell? ⟨w.heap.size,0,none⟩=some (.slice g.a g.n g.c):=by rw [hgrow5.cell_far _ Q9 (xn _ (by show w.heap.size < q+1;omega))];go_simp
   have z1:w5.cell? ⟨w.heap.size+1,0,none⟩=some zD:=by rw [hgrow5.cell_far _ Q9 (xn _ (by show w.heap.size+1 < q+1;omega))];go_simp
   have z2:w5.frozen? ⟨w.heap.size+1,0,none⟩=false:=by rw [hgrow5.frozen_far _ Q9 (xn _ (by show w.heap.size+1 < q+1;omega))];go_simp
   have zq:w5.cell? ⟨q,0,none⟩=some cv:=by rw [hgrow5.cell_far _ Q9 (xn _ (by show q < q+1;omega))];go_simp
   have zf:w5.frozen? ⟨q,0,none⟩=false:=by rw [hgrow5.frozen_far _ Q9 (xn _ (by show q < q+1;omega))];go_simp
   obtain⟨yu,zr,zc,zg,_⟩:=J5 hown5;have yd:Below q W1 w5:=(xa.alloc R5 _).grown hgrow5 Q9 (fun k hk=>by have:=(xc k hk).1;omega);have xe:∀j,j < g.n->Y7 (q+1) w5 (g.f j) (Bk j) (C j):=fun j hj=>by
    have hc:=xh.out j hj;obtain⟨h1,h2,_,_,qe,yk⟩:=J5 hc;refine K5 hc ?_;rw[hgrow5.block (Bk j) Q9 (fun h=>?_)]
    ·exact Below.heap_alloc _ _ _ h2
    ·rcases xb.2 with ⟨h0,_⟩ | ⟨gb,zy,zs,hv,_,hh,_⟩
     ·rw [h0] at h;cases h
     ·rw [hv] at h
      have:Bk j=gb:=by simpa [Value.ownBlock] using h
      rw[<- this,yk] at hh;have:=L5b hh;simp at this
   have zh:=(show Hid _ from xe);clear xe;have yy:(g.n:Int)<=(cc:Int):=by omega
   have zn:w.heap.size < w5.heap.size:=by omega
   have ym:w.heap.size+1 < w5.heap.size:=by omega
   have zm:q < w5.heap.size:=by omega
   clear hgrow5 hat5 hlt5 xc xn;go_wp2_with fail;have zd:¬q=w.heap.size+1:=by omega
   have yn:¬w.heap.size+1=q:=by omega
   have yg:(((w5.setCell ⟨q,0,none⟩ (.slice (zA cb) (g.n+1) cc)).setCell ⟨q,0,none⟩ (.slice (zA cb) g.n cc)).setCell ⟨w.heap.size+1,0,none⟩ (.slice (zA cb) g.n cc)).cell? ⟨w.heap.size+1,0,none⟩=some (.slice (zA cb) g.n cc):=by go_light;go_simp
   refine bodyPost_ret (v:=.agg #[.slice (zA cb) g.n cc]) (by simp [results,results54,go_sem,yg]) rfl ⟨Bk,C,cb,cc,rfl,?_,fun j hj=>?_,xp.out,?_⟩
   ·exact E1 (ownsRow_setCell_below (ownsRow_setCell_below (ownsRow_setCell_below hown5 (a:=⟨q,0,none⟩) (by show q < q+1;omega) _) (a:=⟨q,0,none⟩) (by show q < q+1;omega) _) (a:=⟨w.heap.size+1,0,none⟩) (by show w.heap.size+1 < q+1;omega) _) R5
   ·have hc:=zh.out j hj
    have h1:=(J5 hc).1;refine E1 (K5 hc ?_) R5;rw[Below.heap_setCell _ _ _ _ (by show Bk j≠w.heap.size+1;omega),Below.heap_setCell _ _ _ _ (by show Bk j≠q;omega),Below.heap_setCell _ _ _ _ (by show Bk j≠q;omega)]
   ·exact (((xg.trans (yd.mono R5)).setCell (p:=⟨q,0,none⟩) (by show w.heap.size<=q;omega) _).setCell (p:=⟨q,0,none⟩) (by show w.heap.size<=q;omega) _).setCell (p:=⟨w.heap.size+1,0,none⟩) (by show w.heap.size<=w.heap.size+1;omega) _
end
end Go.Proofs.YtbkmgoffiigdbaaGreatDoor
