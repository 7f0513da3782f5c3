import Derived.Test.YtbkmgoffiigdbaaGreatDoorVAc
import Derived.Deep.AppendLies
namespace Go.Proofs.YtbkmgoffiigdbaaGreatDoor
open Go.RowKit Go.Sort Go.Proofs.Tryz
set_option maxHeartbeats 4000000
set_option maxRecDepth 100000
section
variable {H:Nat->Int} {T:List Nat} {base hb wb:Nat} {f:FnR} {g:PgR} {tv:Value} {w w':World}
theorem a8U:(prog.info? 3).map (fun i=>(i.zero,i.size,i.bytes))=some (some (J 0),1,8):=by kernel_rfl
def oW (T:List Nat):List Value:=T.map fun t:Nat=>J (t:Int)
structure O2 (w:World) (g:PgR) (f:FnR) (wb hb base:Nat) (H:Nat->Int) (T:List Nat) (tv:Value):Prop where
 ne:wb≠hb
 ltw:wb < base
 lth:hb < base
 size:base<=w.heap.size
 c0:w.cell? ⟨wb,0,none⟩=some (.slice g.a g.n g.c)
 c1:w.cell? ⟨wb,1,none⟩=some (.slice f.a f.n f.c)
 c2:w.cell? ⟨wb,2,none⟩=some (.slice (zA hb) f.n f.n)
 c3:w.cell? ⟨wb,3,none⟩=some tv
 fz:w.frozen? ⟨wb,3,none⟩=false
 row:w.rowIs hb 3 f.n (fun i=>J (H i))
 own:w.ownsRow base 3 1 tv T.length (oW T)
def vA (wb hb:Nat) (tv:Value) (k:Nat):Prop:=k=wb\/k=hb\/tv.ownBlock=some k
theorem O2.but (h:O2 w g f wb hb base H T tv) (hb':L0d w w'):O2 w' g f wb hb base H T tv:=by
 have hw:wb < w.heap.size:=L0a h.ltw h.size;have hh:hb < w.heap.size:=L0a h.lth h.size;refine⟨h.ne,h.ltw,h.lth,L5a h.size hb'.size,?_,?_,?_,?_,?_,h.row.of_block (hb'.block hb hh),?_⟩
 ·rw [hb'.cell hw];exact h.c0
 ·rw [hb'.cell hw];exact h.c1
 ·rw [hb'.cell hw];exact h.c2
 ·rw [hb'.cell hw];exact h.c3
 ·rw [hb'.frozen hw];exact h.fz
 ·refine h.own.kept (row:=none) ⟨hb'.os,hb'.tape,hb'.output,hb'.size,fun k hk _=>hb'.block k hk⟩ ?_
  cases hv:tv.ownBlock with
  | none=>exact L4a rfl
  | some k=>exact L4b R6
def sB (n:Nat) (H:Nat->Int) (T:List Nat) (pc:Nat) (height:Int) (H':Nat->Int) (T':List Nat) (ok:Bool):Prop :=
 (ok=false/\n<=pc)\/(ok=false/\pc < n/\H pc ≠ -1/\H pc≠height) \/
 (ok=true/\pc < n/\H pc ≠ -1/\H pc=height/\H'=H/\T'=T) \/
 (ok=true/\pc < n/\H pc = -1/\H'=(fun i=>if i=pc then height else H i)/\T'=T++[pc])
def uT (g:PgR) (f:FnR) (wb hb base:Nat) (H:Nat->Int) (T:List Nat) (tv:Value) (pc:Nat) (height:Int) (w:World) (e:Ending) (w':World):Prop :=
 ∃H' T' tv' ok,e=.returned (.bool ok)/\O2 w' g f wb hb base H' T' tv'/\sB f.n H T pc height H' T' ok/\But (vA wb hb tv) w w'
theorem nY {pc:Nat} {height:Int} {e:Ending} (H':Nat->Int) (T':List Nat) (tv':Value) (ok:Bool)
  (he:e=.returned (.bool ok)) (hw:O2 w' g f wb hb base H' T' tv') (hs:sB f.n H T pc height H' T' ok) (hb':But (vA wb hb tv) w w'):uT g f wb hb base H T tv pc height w e w':=⟨H',T',tv',ok,he,hw,hs,hb'⟩
theorem eA (g:PgR) (f:FnR) (wb hb base:Nat) (H:Nat->Int) (T:List Nat) (tv:Value) (pc:Nat) (height:Int) (w:World) (hw:O2 w g f wb hb base H T tv) (hT:T.length<=60) :
  Calls prog 216 #[zB wb,J (pc:Int),J height] w fun e w'=>uT g f wb hb base H T tv pc height w e w':=by
 have c1:=hw.c1;have c2:=hw.c2;have c3:=hw.c3;have fz:=hw.fz;have xn:wb < w.heap.size:=L0a hw.ltw hw.size;have xm:hb < w.heap.size:=L0a hw.lth hw.size;by_cases hlt:pc < f.n
 ·have kh:=hw.row.cell hlt
  have kf:=hw.row.frozen pc;by_cases hm:H pc = -1
  ·have xi:(H pc == -1)=true:=beq_iff_eq.2 hm
   have HM:=(show Hid _ from hm);clear hm;obtain⟨i0,hi,xk,xh,xj⟩:=info_parts a8U;have xg:=hw.ne;go_enter func216,ntmps216;go_wp2_with (at_builtin;refine wpList_append_own _ rfl (.tmp 33) (.tmp 35) 24 rfl base 3 i0 (J 0) 1 8 underlying24 hi xk xh xj rfl R4 tv T.length (oW T) rfl ((ownsRow_setCell_below hw.own hw.lth _).alloc _) ⟨w.heap.size,0,none⟩ 1 1 [J (pc:Int)] rfl rfl ?c1 ?c2 ?c3 ?c4 ?c5 ?_)
   case c1 =>
    intro j u hj
    match j,hj with
    | 0,hj=>simp at hj;subst hj;simp [Addr.add];go_simp
   case c2=>intro u hu;simp at hu;subst hu;rfl
   case c3=>unfold maxLen;omega
   case c4=>omega
   case c5=>have:=hw.size;simp;omega
   ·intro v' w1 hown' hgrow _
    obtain⟨gb,xb,xl,xf⟩:∃gb xb,v'=.slice (some ⟨gb,0,none⟩) (T.length+1) xb/\base<=gb:=by
     rcases hown'.2 with ⟨_,h0⟩ | ⟨gb,xb,_,hv,xf,_⟩
     ·omega
     ·exact ⟨gb,xb,hv,xf⟩
    subst xl;have xa:∀k,k < base->some k≠tv.ownBlock:=fun k hk e=>by have:=(hw.own.lt k e.symm).1;omega
    have d2:w1.cell? ⟨wb,2,none⟩=some (.slice (zA hb) f.n f.n):=hgrow.cell R3 (xa wb hw.ltw);have d3:w1.cell? ⟨wb,3,none⟩=some tv:=hgrow.cell R3 (xa wb hw.ltw);have d4:w1.cell? ⟨hb,pc,none⟩=some (J height):=hgrow.cell R3 (xa hb hw.lth);have dz:w1.frozen? ⟨wb,3,none⟩=false:=by
     rw[L0c (w':=w1) (hgrow.block wb Q9 (xa wb hw.ltw))];go_simp
    have d0:w1.cell? ⟨wb,0,none⟩=some (.slice g.a g.n g.c):=hgrow.cell (by have:=hw.c0;go_simp) (xa wb hw.ltw);have d1:w1.cell? ⟨wb,1,none⟩=some (.slice f.a f.n f.c):=hgrow.cell R3 (xa wb hw.ltw);have xd:w1.rowIs hb 3 f.n (fun i=>J (if i=pc then height else H i)) :=
     (((hw.row.set pc (J height)).alloc (Obj.cells #[J (pc:Int)] 3)).of_block (hgrow.block hb Q9 (xa hb hw.lth))).congr (fun j _=>by by_cases e:j=pc <;> simp [e])
    have xc:But (vA wb hb tv) w w1:=(((But.refl _ w).setCell (p:=⟨hb,pc,none⟩) (L4a (L4b (L4a rfl))) (J height)).alloc (Obj.cells #[J (pc:Int)] 3)).trans
     ⟨hgrow.os,hgrow.tape,hgrow.output,hgrow.size,fun k hk hs=>hgrow.block k hk (fun e=>hs (L4b (L4b e.symm)))⟩
    have xe:base<=w1.heap.size:=L5a hw.size (L5a R6 hgrow.size);clear hgrow c1 c2 c3 kh kf fz;go_wp2
    go_ret;refine nY (fun i=>if i=pc then height else H i) (T++[pc]) (.slice (zA gb) (T.length+1) xb) true ?_ ⟨xg,hw.ltw,hw.lth,by simpa using xe,?_,?_,?_,?_,?_,xd.setOther (by exact xg.symm) _,?_⟩ (L4b (L4b (L4b ⟨rfl,hlt,HM.out,rfl,rfl⟩))) (xc.setCell (p:=⟨wb,3,none⟩) (L4a (L4a rfl)) _)
    all_goals go_light
    ·simp
    ·go_simp
    ·go_simp
    ·go_simp
    ·go_simp
    ·go_simp
    ·have:=ownsRow_setCell_below hown' (a:=⟨wb,3,none⟩) hw.ltw (.slice (zA gb) (T.length+1) xb)
     simpa [oW] using this
  ·have xi:(H pc == -1)=false:=L2c.2 hm
   go_enter func216,ntmps216;go_wp2
   go_ret;refine nY H T tv (H pc == height) rfl hw ?_ (But.refl _ _)
   cases hq:H pc == height
   ·exact L4b (L4a ⟨rfl,hlt,hm,by simpa using hq⟩)
   ·exact L4b (L4b (L4a ⟨rfl,hlt,hm,by simpa using hq,rfl,rfl⟩))
 ·go_enter func216,ntmps216
  go_wp2
  go_ret;exact nY H T tv false rfl hw (L4a ⟨rfl,by omega⟩) (But.refl _ _)
end
section
variable {B base hb pc wb:Nat} {H H':Nat->Int} {T T':List Nat} {e:Ending} {f:FnR} {g:PgR} {w w':World}
def tL (k:Nat):Int:=if k=14 then -1 else U5 k 0
def fK (k:Nat):Int:=if k=12 then 1 else if k=13 then 2 else if k=15\/k=27 then 3 else 0
def S4 (k:Nat):Nat:=if k=0 then 255 else if k=2\/k=3 then 259 else if k=12\/k=13 then 270 else if k=14 then 273 else if k=16 then 276 else if k=19\/k=20 then 280 else 257
def a9H:List Nat:=[256,258,260,261,262,263,264,265,266,267,268,269,271,272,274,275,277,278,279,281,282,283,284,285,286,287,288,289]
def doT (k:Nat):Nat:=a9H.getD k 0
def Tab (w:World):Prop:=0 < w.heap.size/\∀k,k < 28->w.cell? ⟨0,k*5,none⟩=some (J (tL k))/\w.cell? ⟨0,k*5+1,none⟩=some (J (R7 k)) /\
 w.cell? ⟨0,k*5+2,none⟩=some (J (fK k))/\w.cell? ⟨0,k*5+3,none⟩=some (.func (.func (S4 k)) #[] #[]) /\
 w.cell? ⟨0,k*5+4,none⟩=some (.func (.func (doT k)) #[] #[])
theorem Tab.below (h:Tab w) (hB:0 < B) (hb:Below B w w'):Tab w' :=
 ⟨L0a h.1 hb.size,fun k hk=>by
  rw[hb.cell (p:=⟨0,k*5,none⟩) hB,hb.cell (p:=⟨0,k*5+1,none⟩) hB,hb.cell (p:=⟨0,k*5+2,none⟩) hB,hb.cell (p:=⟨0,k*5+3,none⟩) hB,hb.cell (p:=⟨0,k*5+4,none⟩) hB];exact h.2 k hk⟩
theorem pI (B:Nat) (g:PgR) (k:Nat) (x:Int) (w:World) (hB:B<=w.heap.size) (hg:I9 B w g) (ht:Tab w) (hk:k < 28) (hx:(k:Int)=14->0<=x/\x < g.n) :
  Calls Tryz.prog 180 #[.agg #[.slice g.a g.n g.c],.agg #[J (k:Int),J x]] w fun e w'=>e=.returned (J (U5 k (g.f x.toNat).p))/\L0d w w':=by
 have hc:=(ht.2 k hk).1;by_cases h:k=14
 ·obtain ⟨h0,h1⟩:=hx R5
  obtain⟨y,rfl⟩:=L5c h0;obtain⟨ha,hb,xa⟩:=hg.2.1 R5;subst h;rw[ha,Int.toNat_natCast,show U5 ((14:Nat):Int) (g.f y).p=(g.f y).p by simp [U5]];exact xG g.b g.o g.n g.c y _ w ht.1 R5 R5 (by simpa [tL] using hc) (xa y R5).1
 ·have e:U5 (k:Int) (g.f x.toNat).p=tL k:=by
   unfold tL;rw [if_neg h];unfold U5;rw[if_neg (show ¬(k:Int)=14 by omega),if_neg (show ¬(k:Int)=14 by omega)]
  rw[e];refine tM _ _ _ k x _ w ht.1 hk ?_ hc;have hz:0<=tL k:=by unfold tL;rw [if_neg h];exact (a1N _ _ (fun _=>by omega)).1
  rw[bne_iff_ne];omega
def Inv (F:G2) (H:Nat->Int) (T:List Nat):Prop :=
 (∀a,a < F.n -> -1<=H a/\H a<=10/\(0<=H a->F.Reach a (H a)))/\(∀t,t∈T->t < F.n/\0<=H t)
def Ext (n:Nat) (H:Nat->Int) (T:List Nat) (H':Nat->Int) (T':List Nat):Prop :=
 (∀a,0<=H a->H' a=H a)/\(∀t,t∈T->t∈T')/\(∀a,a < n->0<=H' a->0<=H a\/a∈T')/\T'.length+left n H'<=T.length+left n H
theorem Ext.refl (n:Nat) (H:Nat->Int) (T:List Nat):Ext n H T H T:=⟨fun _ _=>rfl,fun _ h=>h,fun _ _ h=>L4a h,L1c _⟩
theorem Ext.trans {n:Nat} {H'':Nat->Int} {T'':List Nat} (h:Ext n H T H' T') (k:Ext n H' T' H'' T''):Ext n H T H'' T'' :=
 ⟨fun a ha=>by rw [k.1 a (by rw [h.1 a ha];exact ha),h.1 a ha],fun t ht=>k.2.1 t (h.2.1 t ht),
  fun a ha hz=>(k.2.2.1 a ha hz).elim (fun h'=>(h.2.2.1 a ha h').imp id (k.2.1 a)) L4b,L5a k.2.2.2 h.2.2.2⟩
theorem gQ {F:G2} {a c:Nat} {b v:Int} {ok:Bool} (hi:Inv F H T) (hr:F.Reach a b) (hc:c∈F.next a) (hv:F.behind a b=v) (h0:0<=v) (h10:v<=10)
  (hs:sB F.n H T c v H' T' ok):(ok=false/\¬F.Fits)\/(ok=true/\Inv F H' T'/\Ext F.n H T H' T'/\c < F.n/\H' c=v):=by
 have xa:F.Reach c v:=hv▸G2.reach_next hr hc;rcases hs with ⟨rfl,hn⟩ | ⟨rfl,hn,h1,h2⟩ | ⟨rfl,hn,h1,h2,rfl,rfl⟩ | ⟨rfl,hn,h1,rfl,rfl⟩
 ·exact L4a ⟨rfl,G2.not_fits_past hr hc hn⟩
 ·have:=hi.1 c hn
  exact L4a ⟨rfl,G2.not_fits_two hr hc (this.2.2 R5) (by rw [hv];exact h2)⟩
 ·exact L4b ⟨rfl,hi,Ext.refl _ _ _,hn,h2⟩
 ·refine L4b ⟨rfl,⟨fun x hx=>?_,fun t ht=>?_⟩,⟨fun x hx=>?_,fun t ht=>List.mem_append_left _ ht,fun x hx hz=>?_,?_⟩,hn,by simp⟩
  ·by_cases e:x=c
   ·subst e;simp only [if_pos];exact ⟨by omega,h10,fun _=>xa⟩
   ·simp only [if_neg e];exact hi.1 x hx
  ·rcases List.mem_append.1 ht with ht | ht
   ·obtain ⟨p,q⟩:=hi.2 t ht
    refine⟨p,?_⟩;by_cases e:t=c
    ·subst e;simpa using h0
    ·simpa only [if_neg e] using q
   ·obtain rfl:t=c:=by simpa using ht
    exact⟨hn,by simpa using h0⟩
  ·have:x≠c:=by intro e;subst e;omega
   simp only[if_neg this]
  ·by_cases e:x=c
   ·subst e;exact L4b R6
   ·simp only [if_neg e] at hz;exact L4a hz
  ·have:=kK hn (show H c < 0 by omega) h0
   simp only[List.length_append,List.length_cons,List.length_nil];omega
theorem aG {tv:Value} (h:O2 w g f wb hb base H T tv) {B:Nat} (h1:B<=wb) (h2:B<=hb):∀k,k < B->¬vA wb hb tv k:=by
 rintro k hk (rfl | rfl | he)
 ·omega
 ·omega
 ·have:=(h.own.lt k he).1;have:=h.ltw;omega
def lC (B:Nat) (g:PgR) (f:FnR) (wb hb base:Nat) (H:Nat->Int) (T:List Nat) (pc:Nat) (w:World) (e:Ending) (w':World):Prop :=
 ∃ok H' T' tv',e=.returned (.bool ok)/\Below B w w'/\((ok=false/\¬(B6 g f).Fits)\/(ok=true/\O2 w' g f wb hb base H' T' tv'/\Inv (B6 g f) H' T'/\Ext f.n H T H' T'/\(B6 g f).Shut H' pc))
theorem W8 (he:e=.returned (.bool false)) (hb':Below B w w') (hn:¬(B6 g f).Fits) :
  lC B g f wb hb base H T pc w e w':=⟨false,H,T,zD,he,hb',L4a ⟨rfl,hn⟩⟩
theorem bJ (H':Nat->Int) (T':List Nat) (tv':Value) (he:e=.returned (.bool true)) (hb':Below B w w')
  (hw:O2 w' g f wb hb base H' T' tv') (hi:Inv (B6 g f) H' T') (hx:Ext f.n H T H' T') (hs:(B6 g f).Shut H' pc):lC B g f wb hb base H T pc w e w':=⟨true,H',T',tv',he,hb',L4b ⟨rfl,hw,hi,hx,hs⟩⟩
end
section
variable {e n s size:Nat} {g:PgR} {v:Value} {w w':World} {xs:List Value} {α:Type}
theorem aR {c:α->List Value} (hc:∀x,(c x).length=s) (l:List α):(l.flatMap c).length=l.length*s:=by
 induction l with
 | nil=>simp
 | cons a l ih=>simp [List.flatMap_cons,hc,ih,Nat.add_mul];omega
theorem D3 {c:α->List Value} (hc:∀x,(c x).length=s) {l:List α} {i j:Nat} {x:α} (hi:l[i]?=some x) (hj:j < s):(l.flatMap c)[i*s+j]?=(c x)[j]?:=by
 induction l generalizing i with
 | nil=>simp at hi
 | cons a l ih =>
  cases i with
  | zero =>
   simp at hi;subst hi;rw[List.flatMap_cons,List.getElem?_append_left (by rw [hc];omega)];simp
  | succ i =>
   simp at hi;rw[List.flatMap_cons,List.getElem?_append_right (by rw [hc,Nat.succ_mul];omega),hc,show (i+1)*s+j - s=i*s+j by rw [Nat.succ_mul];omega];exact ih hi
theorem gU {c:α->List Value} (hc:∀x,(c x).length=s) (l:List α) (k:Nat):(l.take k).flatMap c=(l.flatMap c).take (k*s):=by
 induction l generalizing k with
 | nil=>simp
 | cons a l ih =>
  cases k with
  | zero=>simp
  | succ k =>
   have e:List.take ((k+1)*s) (c a)=c a:=List.take_of_length_le (by rw [hc,Nat.succ_mul];omega);rw[List.take_succ_cons,List.flatMap_cons,List.flatMap_cons,List.take_append,ih,hc,show (k+1)*s - s=k*s by rw [Nat.succ_mul];omega,e]
theorem I7 {c:α->List Value} (hc:∀x,(c x).length=s) {l:List α} {i j:Nat} {x y:α} {u:Value} (hi:l[i]?=some x) (hj:j < s) (hy:c y=(c x).set j u) :
  (l.set i y).flatMap c=(l.flatMap c).set (i*s+j) u:=by
 induction l generalizing i with
 | nil=>simp at hi
 | cons a l ih =>
  cases i with
  | zero =>
   simp at hi;subst hi;rw[List.set_cons_zero,List.flatMap_cons,List.flatMap_cons,List.set_append_left _ _ (by rw [hc];omega),hy];simp
  | succ i =>
   simp at hi;rw[List.set_cons_succ,List.flatMap_cons,List.flatMap_cons,List.set_append_right _ _ (by rw [hc,Nat.succ_mul];omega),hc,show (i+1)*s+j - s=i*s+j by rw [Nat.succ_mul];omega,ih hi]
abbrev Val:=Int × Int
def O9 (v:Val):List Value:=[zC v.1,J v.2]
def A7 (l:List Val):List Value:=l.flatMap O9
theorem E6 (v:Val):(O9 v).length=2:=rfl
structure FrR where
 fn:Nat
 pc:Nat
 lv:Value
 sv:Value
 loc:List Val
 stk:List Val
def FrR.cells (f:FrR):List Value:=[J f.fn,J f.pc,f.lv,f.sv]
theorem FrR.cells_len (f:FrR):f.cells.length=4:=rfl
structure ObR where
 kind:Int
 fv:Value
 fl:List Val
def ObR.cells (o:ObR):List Value:=[zC o.kind,o.fv]
theorem ObR.cells_len (o:ObR):o.cells.length=2:=rfl
structure McR where
 st:Int
 ov:Value
 out:List Int
 cv:Value
 frs:List FrR
 hv:Value
 obs:List ObR
 dv:Value
 dr:List Int
inductive Tag where
 | mach | out | called | slots | draws
 | loc (i:Nat) | stk (i:Nat) | fld (j:Nat)
abbrev Own:=Nat->Option Tag
def Row (w:World) (own:Own) (t:Tag) (e size:Nat) (v:Value) (n:Nat) (xs:List Value):Prop :=
 w.ownsRow 0 e size v n xs/\∀b,v.ownBlock=some b->own b=some t
def PgR.blk (g:PgR) (k:Nat):Prop:=(0 < g.n/\k=g.b)\/∃i,i < g.n/\0 < (g.f i).n/\k=(g.f i).b
structure A4 (w:World) (own:Own) (mb:Nat) (g:PgR) (R:McR):Prop where
 lt:∀k t,own k=some t->k < w.heap.size
 me:own mb=some .mach
 c0:w.cell? ⟨mb,0,none⟩=some (.slice g.a g.n g.c)
 c1:w.cell? ⟨mb,1,none⟩=some (J R.st)
 c2:w.cell? ⟨mb,2,none⟩=some R.ov
 c3:w.cell? ⟨mb,3,none⟩=some R.cv
 c4:w.cell? ⟨mb,4,none⟩=some R.hv
 fz:∀j,w.frozen? ⟨mb,j,none⟩=false
 out:Row w own .out 3 1 R.ov R.out.length (R.out.map fun n=>J n)
 called:Row w own .called 86 4 R.cv R.frs.length (R.frs.flatMap FrR.cells)
 slots:Row w own .slots 90 2 R.hv R.obs.length (R.obs.flatMap ObR.cells)
 loc:∀i f,R.frs[i]?=some f->Row w own (.loc i) 92 2 f.lv f.loc.length (A7 f.loc)
 stk:∀i f,R.frs[i]?=some f->Row w own (.stk i) 92 2 f.sv f.stk.length (A7 f.stk)
 fld:∀j o,R.obs[j]?=some o->Row w own (.fld j) 92 2 o.fv o.fl.length (A7 o.fl)
 pg:I9 w.heap.size w g
 ro:∀k,g.blk k->own k=none
 tab:Tab w
 ro0:own 0=none
 c5:w.cell? ⟨mb,5,none⟩=some R.dv
 draws:Row w own .draws 3 1 R.dv R.dr.length (R.dr.map fun n=>J n)
theorem A6 {base:Nat} (h:w.ownsRow base e size v n xs) (hb:∀b,v.ownBlock=some b->w'.heap[b]?=w.heap[b]?):w'.ownsRow base e size v n xs:=by
 refine⟨h.1,h.2.imp id ?_⟩;rintro⟨g,xa,xb,rfl,h1,h2,h3⟩;exact⟨g,xa,xb,rfl,h1,(hb g rfl).trans h2,h3⟩
theorem Row.kept {own own':Own} {t:Tag} (h:Row w own t e size v n xs) (hk:∀k,own k=some t->w'.heap[k]?=w.heap[k]?/\own' k=some t):Row w' own' t e size v n xs :=
 ⟨A6 h.1 fun b hb=>(hk b (h.2 b hb)).1,fun b hb=>(hk b (h.2 b hb)).2⟩
theorem Row.cut {own:Own} {t:Tag} {g cap:Nat} (h:Row w own t e size (.slice (zA g) n cap) n xs) {m:Nat} (hm:m<=n):Row w own t e size (.slice (zA g) m cap) m (xs.take (m*size)):=by
 refine⟨⟨?_,?_⟩,fun b hb=>h.2 b hb⟩
 ·rw [List.length_take,h.1.1];exact Nat.min_eq_left (Nat.mul_le_mul_right _ hm)
 ·rcases h.1.2 with ⟨h0,_⟩ | ⟨g',xa,xb,hv,h1,h2,h3,h4,h5,h6⟩
  ·cases h0
  ·cases hv
   refine L4b ⟨g,cap,xb,rfl,h1,h2,by omega,h4,h5,?_⟩;rw[<- h6,List.take_take,Nat.min_eq_left (Nat.mul_le_mul_right _ hm)]
theorem I9.held (h:I9 w.heap.size w g) (hs:w.heap.size<=w'.heap.size) (hk:∀k,g.blk k->w'.heap[k]?=w.heap[k]?):I9 w'.heap.size w' g:=by
 refine⟨h.1,fun hn=>?_,fun i hi=>⟨(h.2.2 i hi).1,fun hn=>?_⟩⟩
 ·obtain ⟨h1,h2,h3⟩:=h.2.1 hn
  refine⟨h1,by omega,fun i hi=>?_⟩;have e:=hk g.b (L4a ⟨hn,rfl⟩);rw[L0b (w:=w) (a:=⟨g.b,g.o+i*3,none⟩) e,L0b (w:=w) (a:=⟨g.b,g.o+i*3+1,none⟩) e,L0b (w:=w) (a:=⟨g.b,g.o+i*3+2,none⟩) e];exact h3 i hi
 ·obtain ⟨h1,h2,h3⟩:=(h.2.2 i hi).2 hn
  refine⟨h1,by omega,fun j hj=>?_⟩;have e:=hk (g.f i).b (L4b ⟨i,hi,hn,rfl⟩);rw[L0b (w:=w) (a:=⟨(g.f i).b,(g.f i).o+j*2,none⟩) e,L0b (w:=w) (a:=⟨(g.f i).b,(g.f i).o+j*2+1,none⟩) e];exact h3 j hj
theorem I9.blk_lt (h:I9 w.heap.size w g) {k:Nat} (hk:g.blk k):k < w.heap.size:=by
 rcases hk with ⟨hn,rfl⟩ | ⟨i,hi,hn,rfl⟩
 ·exact (h.2.1 hn).2.1
 ·exact ((h.2.2 i hi).2 hn).2.1
theorem Tab.held (h:Tab w) (hs:w.heap.size<=w'.heap.size) (hk:w'.heap[0]?=w.heap[0]?):Tab w' :=
 ⟨L0a h.1 hs,fun k hk'=>by
  rw[L0b (w:=w) (a:=⟨0,k*5,none⟩) hk,L0b (w:=w) (a:=⟨0,k*5+1,none⟩) hk,L0b (w:=w) (a:=⟨0,k*5+2,none⟩) hk,
   L0b (w:=w) (a:=⟨0,k*5+3,none⟩) hk,L0b (w:=w) (a:=⟨0,k*5+4,none⟩) hk]
  exact h.2 k hk'⟩
structure A2 (own:Own) (w:World) (own':Own) (w':World):Prop where
 os:w'.os=w.os
 tape:w'.tape=w.tape
 output:w'.output=w.output
 size:w.heap.size<=w'.heap.size
 block:∀k,k < w.heap.size->own k=none->w'.heap[k]?=w.heap[k]?
 old:∀k,k < w.heap.size->own' k=own k
theorem A2.refl (own:Own) (w:World):A2 own w own w:=⟨rfl,rfl,rfl,L1c _,fun _ _ _=>rfl,fun _ _=>rfl⟩
theorem A2.trans {own own' own'':Own} {w'':World} (h:A2 own w own' w') (k:A2 own' w' own'' w''):A2 own w own'' w'' :=
 ⟨k.os.trans h.os,k.tape.trans h.tape,k.output.trans h.output,L5a h.size k.size,
  fun i hi hn=>(k.block i (L0a hi h.size) (by rw [h.old i hi];exact hn)).trans (h.block i hi hn),
  fun i hi=>(k.old i (L0a hi h.size)).trans (h.old i hi)⟩
end
section
variable {R:McR} {e mb n size:Nat} {f:FrR} {fs:List FrR} {g:PgR} {own:Own} {t:Tag} {v:Value} {w w':World} {xs:List Value}
def Own.upd (own:Own) (b:Option Nat) (t:Tag):Own:=fun k=>if b=some k then some t else own k
theorem Own.upd_none (own:Own) (t:Tag):own.upd none t=own:=by funext k;simp [Own.upd]
theorem Own.upd_same {b:Nat} (h:own b=some t):own.upd (some b) t=own:=by
 funext k;unfold Own.upd;split
 ·rename_i e;cases e;exact h.symm
 ·rfl
def E7 (w:World) (own:Own) (v:Value) (t:Tag):Prop:=∀b,v.ownBlock=some b->own b=some t\/w.heap.size<=b
theorem Own.upd_old (h:E7 w own v t) {k:Nat} (hk:k < w.heap.size):own.upd v.ownBlock t k=own k:=by
 unfold Own.upd;split
 ·rename_i e
  rcases h k e with h1 | h1
  ·exact h1.symm
  ·omega
 ·rfl
theorem Own.upd_lt {base:Nat} (hlt:∀k t,own k=some t->k < w.heap.size) (hs:w.heap.size<=w'.heap.size) (hv:w'.ownsRow base e size v n xs) :
  ∀k u,own.upd v.ownBlock t k=some u->k < w'.heap.size:=by
 intro k u h;unfold Own.upd at h;split at h
 ·rename_i e;exact (hv.lt k e).2
 ·exact L0a (hlt k u h) hs
theorem Row.upd {s:Tag} {v':Value} (hlt:∀k t,own k=some t->k < w.heap.size) (hon:E7 w own v' t) (h:Row w own s e size v n xs) (hk:∀k,own k=some s->w'.heap[k]?=w.heap[k]?) :
  Row w' (own.upd v'.ownBlock t) s e size v n xs :=
 h.kept fun k hs=>⟨hk k hs,by rw [Own.upd_old hon (hlt k s hs)];exact hs⟩
theorem A4.top (h:A4 w own mb g R) (hf:R.frs=fs++[f]) :
  ∃cb cc,R.cv=.slice (zA cb) (fs.length+1) cc/\own cb=some .called/\cb < w.heap.size/\(∀j,w.frozen? ⟨cb,j,none⟩=false) /\
   w.cell? ⟨cb,fs.length*4,none⟩=some (J f.fn)/\w.cell? ⟨cb,fs.length*4+1,none⟩=some (J f.pc)/\w.cell? ⟨cb,fs.length*4+2,none⟩=some f.lv/\w.cell? ⟨cb,fs.length*4+3,none⟩=some f.sv:=by
 have hc:=h.called;rw[hf] at hc;obtain⟨cb,cc,hv,_,xb⟩:=hc.1.form R6;have hl:(fs++[f]).length=fs.length+1:=by simp
 rw[hl] at hc hv;rw[hv] at hc;have hg:(fs++[f])[fs.length]?=some f:=by simp
 have xa:∀j,j < 4->w.cell? ⟨cb,fs.length*4+j,none⟩=f.cells[j]?:=fun j hj=>by
  rw[hc.1.cellAt _ R5];exact D3 FrR.cells_len hg hj
 exact⟨cb,cc,hv,hc.2 cb rfl,xb,fun j=>hc.1.frozenAt j,xa 0 R5,xa 1 R5,xa 2 R5,xa 3 R5⟩
theorem A4.setTop {R:McR} {f':FrR} (h:A4 w own mb g R) (hf:R.frs=fs++[f]) (hlv:f'.lv=f.lv) (hloc:f'.loc=f.loc) (hsize:w.heap.size<=w'.heap.size)
  (hk:∀k,k < w.heap.size->own k≠some .called->own k≠some (.stk fs.length)->w'.heap[k]?=w.heap[k]?)
  (hcalled:w'.ownsRow 0 86 4 R.cv (fs.length+1) ((fs++[f']).flatMap FrR.cells)) (hst:w'.ownsRow 0 92 2 f'.sv f'.stk.length (A7 f'.stk)) (hon:E7 w own f'.sv (.stk fs.length)) :
  A4 w' (own.upd f'.sv.ownBlock (.stk fs.length)) mb g { R with frs:=fs++[f'] }:=by
 have xa:=h.lt;have keep:∀t,t≠.called->t≠.stk fs.length->∀k,own k=some t->w'.heap[k]?=w.heap[k]?:=fun t h1 h2 k hk' =>
  hk k (xa k t hk') (by rw [hk'];exact fun e=>h1 (L5b e)) (by rw [hk'];exact fun e=>h2 (L5b e))
 have xb:=keep .mach R6 R6 mb h.me;have xc:∀i x,(fs++[f'])[i]?=some x->(i=fs.length/\x=f')\/(i≠fs.length/\R.frs[i]?=some x):=fun i x hx=>by
  by_cases e:i=fs.length
  ·subst e;simp at hx;exact L4a ⟨rfl,hx.symm⟩
  ·refine L4b ⟨e,?_⟩
   rw[hf];rcases Nat.lt_or_ge i fs.length with hl | hl
   ·rw [List.getElem?_append_left hl] at hx ⊢;exact hx
   ·rw [List.getElem?_append_right hl] at hx
    rw[List.getElem?_eq_none Q9] at hx;cases hx
 refine⟨Own.upd_lt xa hsize hst,?_,?_,?_,?_,?_,?_,?_,?_,?_,?_,?_,?_,?_,?_,?_,?_,?_,?_,?_⟩
 ·rw [Own.upd_old hon (xa mb _ h.me)];exact h.me
 ·rw [L0b (w:=w) (a:=⟨mb,0,none⟩) xb];exact h.c0
 ·rw [L0b (w:=w) (a:=⟨mb,1,none⟩) xb];exact h.c1
 ·rw [L0b (w:=w) (a:=⟨mb,2,none⟩) xb];exact h.c2
 ·rw [L0b (w:=w) (a:=⟨mb,3,none⟩) xb];exact h.c3
 ·rw [L0b (w:=w) (a:=⟨mb,4,none⟩) xb];exact h.c4
 ·intro j;rw [L0c (w:=w) (a:=⟨mb,j,none⟩) xb];exact h.fz j
 ·exact h.out.upd xa hon (keep _ R6 R6)
 ·refine ⟨by simpa using hcalled,fun b hb=>?_⟩
  have:=h.called.2 b hb;rw[Own.upd_old hon (xa b _ this)];exact this
 ·exact h.slots.upd xa hon (keep _ R6 R6)
 ·intro i x hx
  rcases xc i x hx with ⟨rfl,rfl⟩ | ⟨_,hx⟩
  ·rw [hlv,hloc]
   exact (h.loc fs.length f (by rw [hf];simp)).upd xa hon (keep _ R6 R6)
  ·exact (h.loc i x hx).upd xa hon (keep _ R6 R6)
 ·intro i x hx
  rcases xc i x hx with ⟨rfl,rfl⟩ | ⟨xd,hx⟩
  ·refine ⟨hst,fun b hb=>?_⟩
   simp[Own.upd,hb]
  ·exact (h.stk i x hx).upd xa hon (keep _ R6 (by simpa using xd))
 ·intro j o ho
  exact (h.fld j o ho).upd xa hon (keep _ R6 R6)
 ·exact h.pg.held hsize fun k hb=>hk k (h.pg.blk_lt hb) (by rw [h.ro k hb];simp) (by rw [h.ro k hb];simp)
 ·intro k hb;rw [Own.upd_old hon (h.pg.blk_lt hb)];exact h.ro k hb
 ·exact h.tab.held hsize (hk 0 h.tab.1 (by rw [h.ro0];simp) (by rw [h.ro0];simp))
 ·rw [Own.upd_old hon h.tab.1];exact h.ro0
 ·rw [L0b (w:=w) (a:=⟨mb,5,none⟩) xb];exact h.c5
 ·exact h.draws.upd xa hon (keep _ R6 R6)
theorem L6 (mb cb n cc:Nat) (w:World) (hn:n<=1000) (hc:w.cell? ⟨mb,3,none⟩=some (.slice (zA cb) (n+1) cc)) :
  Calls prog 178 #[.pointer (some ⟨mb,3,none⟩)] w fun e w'=>e=.returned (.pointer (some ⟨cb,n*4,none⟩))/\∃m,w'=w.drewN m:=by
 go_enter func178,ntmps178;go_wp2
 go_quiet (fail)
 go_wp2
 go_ret;exact⟨rfl,_,rfl⟩
def a1x (sb s k:Nat) (w:World) (e:Ending) (w':World):Prop:=∃va vc,e=.returned (.slice va k vc)/\(0 < k->va=some ⟨sb,(s - k)*2,none⟩)/\∃m,w'=w.drewN m
theorem a1T {sb s k:Nat} {e:Ending} {va:Option Addr} {vc m:Nat} (hs:k<=s) (hn:n=s - (s - k)) (he:e=.returned (.slice va n vc)) (h:0 < k->va=some ⟨sb,(s - k)*2,none⟩) (hw:w'=w.drewN m):a1x sb s k w e w' :=
 ⟨va,vc,by rw [he,hn,show s - (s - k)=k by omega],h,m,hw⟩
theorem a8p (mb cb n cc sb s sc k:Nat) (w:World) (hn:n<=1000) (hs:s<=1000) (hsc:s<=sc) (hk:k<=s) (hc:w.cell? ⟨mb,3,none⟩=some (.slice (zA cb) (n+1) cc))
  (hst:w.cell? ⟨cb,n*4+3,none⟩=some (.slice (zA sb) s sc)) :
  Calls prog 179 #[.pointer (some ⟨mb,3,none⟩),J (k:Int)] w fun e w'=>a1x sb s k w e w':=by
 go_enter func179,ntmps179;go_wp2_with (go_at_call 178;refine (L6 mb cb n cc _ hn hc).mono ?_;rintro e w' ⟨rfl,m,rfl⟩)
 all_goals go_ret
 ·exact a1T hk rfl rfl (fun h=>by omega) rfl
 ·exact a1T hk rfl rfl (fun _=>rfl) rfl
theorem a8o (mb cb n cc:Nat) (w:World) (hn:n<=1000) (hc:w.cell? ⟨mb,3,none⟩=some (.slice (zA cb) (n+1) cc))
  (hst:w.cell? ⟨cb,n*4+3,none⟩=some zD) :
  Calls prog 179 #[.pointer (some ⟨mb,3,none⟩),J 0] w fun e w'=>e=.returned zD/\∃m,w'=w.drewN m:=by
 go_enter func179,ntmps179;go_wp2_with (go_at_call 178;refine (L6 mb cb n cc _ hn hc).mono ?_;rintro e w' ⟨rfl,m,rfl⟩)
 all_goals go_ret
 exact⟨rfl,_,rfl⟩
theorem a4Z (mb cb n cc sb s sc k:Nat) (w:World) (hn:n<=1000) (hs:s<=1000) (hsc:s<=sc) (hk:k<=s) (hc:w.cell? ⟨mb,3,none⟩=some (.slice (zA cb) (n+1) cc))
  (hst:w.cell? ⟨cb,n*4+3,none⟩=some (.slice (zA sb) s sc)) (hfz:w.frozen? ⟨cb,n*4+3,none⟩=false) :
  Calls prog 298 #[.pointer (some ⟨mb,3,none⟩),J (k:Int)] w fun e w'=>e=.returned (.tuple #[])/\∃m,w'=(w.drewN m).setCell ⟨cb,n*4+3,none⟩ (.slice (zA sb) (s - k) sc):=by
 go_enter func298,ntmps298;go_wp2_with (go_at_call 178;refine (L6 mb cb n cc _ hn hc).mono ?_;rintro e w' ⟨rfl,m,rfl⟩)
 go_region
 all_goals go_wp2
 all_goals go_end0
 all_goals exact ⟨rfl,_,rfl⟩
theorem a4Y (mb cb n cc:Nat) (w:World) (hn:n<=1000) (hc:w.cell? ⟨mb,3,none⟩=some (.slice (zA cb) (n+1) cc))
  (hst:w.cell? ⟨cb,n*4+3,none⟩=some zD) (hfz:w.frozen? ⟨cb,n*4+3,none⟩=false) :
  Calls prog 298 #[.pointer (some ⟨mb,3,none⟩),J 0] w fun e w'=>e=.returned (.tuple #[])/\∃m,w'=(w.drewN m).setCell ⟨cb,n*4+3,none⟩ zD:=by
 go_enter func298,ntmps298;go_wp2_with (go_at_call 178;refine (L6 mb cb n cc _ hn hc).mono ?_;rintro e w' ⟨rfl,m,rfl⟩)
 go_region
 all_goals go_wp2
 all_goals go_end0
 all_goals exact ⟨rfl,_,rfl⟩
end
theorem rN (B:Nat) (g:PgR) (f:FnR) (wb hb base:Nat) (H:Nat->Int) (T:List Nat) (tv:Value) (pc:Nat) (w:World) (hw:O2 w g f wb hb base H T tv) (hB0:0 < B) (hB1:B<=wb) (hB2:B<=hb)
  (hg:I9 B w g) (hf:N2 B w f) (hgood:yC g f) (ht:Tab w) (hT:T.length<=59) (hpc:pc < f.n) (hinv:Inv (B6 g f) H T) (hH:0<=H pc) :
  Calls prog 217 #[zB wb,J (pc:Int)] w fun e w'=>lC B g f wb hb base H T pc w e w':=by
 have za:f.n<=60:=hgood.2.1;have zt:wb < w.heap.size:=L0a hw.ltw hw.size;have zs:hb < w.heap.size:=L0a hw.lth hw.size;obtain⟨ha,zn,xl⟩:=hf.2 R5;obtain⟨co,ca⟩:=xl pc hpc;clear xl;have yd:=hgood.2.2.2 pc hpc;have xk:=(show Hid _ from yd);clear yd;obtain⟨yu,yl⟩:=gC xk.out;obtain⟨k,hk⟩:=L5c yu;rw[hk] at co yu yl
 have yf:k < 28:=by omega
 obtain⟨q,hq⟩:∃q,q=(B6 g f).pop pc:=⟨_,rfl⟩
 obtain⟨zg,zl⟩:=hgood.pop_bd hpc;rw[<- hq] at zg zl;obtain⟨r,hr⟩:∃r,r=(B6 g f).push pc:=⟨_,rfl⟩
 obtain⟨zd,zb⟩:=bP (f.op pc);rw[show R7 (f.op pc)=r from hr.symm] at zd zb;have HP:Hid (∀W,Below (w.alloc (Obj.cells #[J (k:Int),J (f.ar pc)] 165)).heap.size (w.alloc (Obj.cells #[J (k:Int),J (f.ar pc)] 165)) W->Calls prog 180 #[.agg #[.slice g.a g.n g.c],.agg #[J (k:Int),J (f.ar pc)]] W fun e w'=>e=.returned (J q)/\L0d W w'):=by
  intro W hW;have yq:L0d w W:=D7 hW ((L3b _ _).alloc (L1c _) _) R6;have zm:=hw.size;have zr:=hw.ltw;have e:(B6 g f).pop pc=U5 k (g.f (f.ar pc).toNat).p:=by show U5 (f.op pc) _=_;rw [hk]
  rw[hq,e];refine pI B g k (f.ar pc) W (by have:=yq.size;omega) (hg.below (yq.mono R5)) (ht.below hB0 (yq.mono R5)) yf (fun ho=>?_);refine S8 (l:=f.l) (nc:=f.n) (op:=f.op pc) xk.out ?_;rw[hk];exact ho
 obtain⟨_,t1,t2,_⟩:=ht.2 k yf;have yt:R7 (k:Int)=r:=by rw [hr];show _=R7 (f.op pc);rw [hk]
 rw[yt] at t1;clear yt;have zj:=ht.1;have yz:(B6 g f).next pc=D9 pc k (f.ar pc):=by show D9 pc (f.op pc) _=_;rw [hk]
 have yg:=(show Hid _ from yz);clear yz;have HQ:=(show Hid _ from hq);clear hq;have HR:=(show Hid _ from hr);clear hr;have HK:=(show Hid _ from hk);clear hk;obtain⟨zp,zi,yw⟩:=hinv.1 pc hpc;have xi:=yw hH;have xa:=(show Hid _ from xi);clear xi yw;have c0:=hw.c0;have c1:=hw.c1;have c2:=hw.c2;rw[ha] at c1;have kh:=hw.row.cell hpc;have HA:=(show Hid _ from ha);clear ha;have ze:f.b < w.heap.size:=by omega
 go_enter func217,ntmps217;go_wp2
 have k0:=cell_regrown (w:=(w.alloc (Obj.cells #[J (k:Int),J (f.ar pc)] 165))) (a:=⟨wb,0,none⟩) (v:=.slice g.a g.n g.c) R3;have k1:=cell_regrown (w:=(w.alloc (Obj.cells #[J (k:Int),J (f.ar pc)] 165))) (a:=⟨wb,2,none⟩) (v:=.slice (zA hb) f.n f.n) R3;have k2:=cell_regrown (w:=(w.alloc (Obj.cells #[J (k:Int),J (f.ar pc)] 165))) (a:=⟨hb,pc,none⟩) (v:=J (H pc)) R3
 have k3:=cell_regrown (w:=(w.alloc (Obj.cells #[J (k:Int),J (f.ar pc)] 165))) (a:=⟨w.heap.size,0,none⟩) (v:=J (k:Int)) R3;have k4:=cell_regrown (w:=(w.alloc (Obj.cells #[J (k:Int),J (f.ar pc)] 165))) (a:=⟨w.heap.size,1,none⟩) (v:=J (f.ar pc)) R3;have yi:L0d w (w.alloc (Obj.cells #[J (k:Int),J (f.ar pc)] 165)):=(L3b _ _).alloc (L1c _) _
 have yr:(w.alloc (Obj.cells #[J (k:Int),J (f.ar pc)] 165)).heap.size=w.heap.size+1:=by simp
 generalize (w.alloc (Obj.cells #[J (k:Int),J (f.ar pc)] 165))=W at *
 refine wp_region_quiet_below Q8 Q8 ?_
 repeat (first
  | go_big_quiet_step ((go_at_call 180;exact Calls.regrown_of (HP.out _ (below_regrown _ _ _))))
  | quiet_step ((go_at_call 180;exact Calls.regrown_of (HP.out _ (below_regrown _ _ _)))))
 refine wpQuiet_nil ?_;intro _ hw';obtain⟨⟨dq,xo⟩,hw''⟩:=hw';subst hw'';have yn:L0d w (grow (redrawn W dq) xo):=yi.trans ((below_regrown W dq xo).mono yi.size);have e3:=k3 dq xo;have e4:=k4 dq xo;have zq:w.heap.size+1<=(grow (redrawn W dq) xo).heap.size:=by rw [<- yr];exact (below_regrown W dq xo).size
 clear k0 k1 k2 k3 k4 HP yi yr;generalize grow (redrawn W dq) xo=W2 at *
 have xr:O2 W2 g f wb hb base H T tv:=hw.but yn;have xs:Below B w W2:=yn.mono R5;rw[<- yn.cell (p:=⟨0,_,none⟩) zj] at t1 t2;have zo:0 < W2.heap.size:=by omega
 clear c0 c1 c2 kh co ca;have xh:Hid ((B6 g f).behind pc (H pc)=H pc - q+r):=by show _=_;unfold G2.behind;rw [<- HQ.out,<- HR.out]
 by_cases hb1:H pc - q < 0
 ·go_wp2_with fail
  go_ret;exact W8 rfl xs (G2.not_fits_pop xa.out (L4a (by rw [<- HQ.out];omega)))
 by_cases hb10:10 < H pc - q+r
 ·go_wp2_with fail
  go_ret;exact W8 rfl xs (G2.not_fits_pop xa.out (L4b (by rw [xh.out];exact hb10)))
 have xx:0<=H pc - q+r:=by omega
 have xg:H pc - q+r<=10:=by omega
 have xz:(B6 g f).pop pc<=H pc:=by rw [<- HQ.out];omega
 have xj:=(show Hid _ from xz);clear xz;have ye:∀b,b=w.heap.size->¬vA wb hb tv b:=by
  rintro b rfl (he | he | he)
  ·omega
  ·omega
  ·have:=(hw.own.lt _ he).2;omega
 have yh:=(show Hid _ from ye);clear ye;by_cases h12:k=12
 ·have ho:f.op pc=12:=by rw [HK.out,h12];rfl
  obtain⟨ya,yj⟩:=Z0 xk.out (L4a ho);obtain⟨y,hy⟩:=L5c ya;have xd:(B6 g f).next pc=[y]:=by rw [yg.out,h12,hy];simp [D9]
  have xe:=(show Hid _ from xd);rw[show fK k=1 by simp [fK,h12]] at t2;rw[hy] at e4;clear xd h12 ho ya yj hy;go_wp2_with fail;refine (eA g f wb hb base H T tv y (H pc - q+r) W2 xr R5).mono ?_;rintro e w3 ⟨H',T',xv,ok,rfl,xt,xf,xb⟩;have xm:Below B w w3:=xs.trans (xb.below R5 (aG xr hB1 hB2));go_wp2_with fail;go_ret;rcases gQ hinv xa.out (c:=y) (by rw [xe.out];simp) xh.out xx xg xf with ⟨rfl,xq⟩ | ⟨rfl,yb,xn,xw,xu⟩
  ·exact W8 rfl xm xq
  ·have he:H' pc=H pc:=xn.1 pc hH
   exact bJ H' T' xv rfl xm xt yb xn ⟨by rw [he];exact xj.out,by rw [he,xh.out];exact xg,fun c hc=>by
    rw[xe.out] at hc;obtain rfl:c=y:=by simpa using hc
    exact⟨xw,by rw [he,xh.out];exact xu⟩⟩
 by_cases h13:k=13
 ·have ho:f.op pc=13:=by rw [HK.out,h13];rfl
  obtain⟨ya,yj⟩:=Z0 xk.out (L4b ho);obtain⟨y,hy⟩:=L5c ya;have xd:(B6 g f).next pc=[y,pc+1]:=by rw [yg.out,h13,hy];simp [D9]
  have xe:=(show Hid _ from xd);rw[show fK k=2 by simp [fK,h13]] at t2;rw[hy] at e4;clear xd h13 h12 ho ya yj hy;go_wp2_with fail;have xc:=eA g f wb hb base H T tv (pc+1) (H pc - q+r) W2 xr R5;rw[show ((pc+1:Nat):Int)=(pc:Int)+1 from by omega] at xc;refine xc.mono ?_;clear xc;rintro e w3 ⟨H',T',xv,ok,rfl,xt,xf,xb⟩;have xm:Below B w w3:=xs.trans (xb.below R5 (aG xr hB1 hB2))
  rcases gQ hinv xa.out (c:=pc+1) (by rw [xe.out];simp) xh.out xx xg xf with ⟨rfl,xq⟩ | ⟨rfl,yb,xn,xw,xu⟩
  ·go_wp2_with fail
   go_ret;exact W8 rfl xm xq
  ·have e5:w3.cell? ⟨w.heap.size,1,none⟩=some (J (y:Int)):=by rw [xb.cell (by show w.heap.size < W2.heap.size;omega) (yh.out _ rfl)];exact e4
   have zh:=xb.size;have zc:T'.length<=T.length+1:=by
    rcases xf with ⟨h,_⟩ | ⟨h,_⟩ | ⟨_,_,_,_,_,rfl⟩ | ⟨_,_,_,_,rfl⟩
    ·cases h
    ·cases h
    ·omega
    ·simp
   have yy:=(show Hid _ from xn);clear xn;have ys:=(show Hid _ from xu);clear xu xf;go_wp2_with fail;refine (eA g f wb hb base H' T' xv y (H pc - q+r) w3 xt R5).mono ?_;rintro e w4 ⟨yv,zf,yp,ok,rfl,zk,xf,xy⟩;go_wp2_with fail;go_ret;have yc:Below B w w4:=xm.trans (xy.below R5 (aG xt hB1 hB2));have yx:H' pc=H pc:=yy.out.1 pc hH;rcases gQ yb (a:=pc) (b:=H pc) xa.out (c:=y) (by rw [xe.out];simp) xh.out xx xg xf with ⟨rfl,xq⟩ | ⟨rfl,ym,xp,yo,yk⟩
   ·exact W8 rfl yc xq
   ·have he:yv pc=H pc:=by rw [xp.1 pc (by rw [yx];exact hH),yx]
    exact bJ yv zf yp rfl yc zk ym (Ext.trans yy.out xp) ⟨by rw [he];exact xj.out,by rw [he,xh.out];exact xg,fun c hc=>by
     rw[xe.out] at hc;rcases List.mem_cons.1 hc with rfl | hc
     ·exact ⟨yo,by rw [he,xh.out];exact yk⟩
     ·obtain rfl:c=pc+1:=by simpa using hc
      exact⟨xw,by rw [he,xh.out,xp.1 _ (by rw [ys.out];exact xx)];exact ys.out⟩⟩
 by_cases hend:k=15\/k=27
 ·have xd:(B6 g f).next pc=[]:=by rw [yg.out];unfold D9;rw [if_pos R5]
  have xe:=(show Hid _ from xd);clear xd;rw[show fK k=3 by unfold fK;rw [if_neg h12,if_neg h13,if_pos hend]] at t2;clear h12 h13 hend;go_wp2_with fail;go_ret;exact bJ H T tv rfl xs xr hinv (Ext.refl _ _ _) ⟨xj.out,by rw [xh.out];exact xg,fun c hc=>by rw [xe.out] at hc;cases hc⟩
 ·have xd:(B6 g f).next pc=[pc+1]:=by rw [yg.out];unfold D9;rw [if_neg R5,if_neg R5,if_neg R5]
  have xe:=(show Hid _ from xd);clear xd;rw[show fK k=0 by unfold fK;rw [if_neg h12,if_neg h13,if_neg hend]] at t2;clear h12 h13 hend;go_wp2_with fail;have xc:=eA g f wb hb base H T tv (pc+1) (H pc - q+r) W2 xr R5;rw[show ((pc+1:Nat):Int)=(pc:Int)+1 from by omega] at xc;refine xc.mono ?_;clear xc;rintro e w3 ⟨H',T',xv,ok,rfl,xt,xf,xb⟩;have xm:Below B w w3:=xs.trans (xb.below R5 (aG xr hB1 hB2))
  go_wp2_with fail;go_ret;rcases gQ hinv xa.out (c:=pc+1) (by rw [xe.out];simp) xh.out xx xg xf with ⟨rfl,xq⟩ | ⟨rfl,yb,xn,xw,xu⟩
  ·exact W8 rfl xm xq
  ·have he:H' pc=H pc:=xn.1 pc hH
   exact bJ H' T' xv rfl xm xt yb xn ⟨by rw [he];exact xj.out,by rw [he,xh.out];exact xg,fun c hc=>by
    rw[xe.out] at hc;obtain rfl:c=pc+1:=by simpa using hc
    exact⟨xw,by rw [he,xh.out];exact xu⟩⟩
end Go.Proofs.YtbkmgoffiigdbaaGreatDoor
