import Derived.Test.YtbkmgoffiigdbaaGreatDoorWAc
import Derived.Laws.AppendOwnNone
import Derived.OneCell
import Derived.Test.YtbkmgoffiigdbaaGreatDoorRows
import Derived.ProofKit
import Derived.OpenShut
import Derived.LaidMore
namespace Go.Proofs.YtbkmgoffiigdbaaGreatDoor
open Go.RowKit Go.Sort Go.Proofs.Tryz
set_option maxHeartbeats 4000000
set_option maxRecDepth 100000
section
variable {H:Nat->Int} {T:List Nat} {base hb wb:Nat} {f:FnR} {g:PgR} {tv:Value} {w w':World}
theorem a5V:(prog.info? 3).map (fun i=>(i.zero,i.size,i.bytes))=some (some (.int .i64 0),1,8):=by kernel_rfl
def mA (T:List Nat):List Value:=T.map fun t:Nat=>.int .i64 (t:Int)
structure M2 (w:World) (g:PgR) (f:FnR) (wb hb base:Nat) (H:Nat->Int) (T:List Nat) (tv:Value):Prop where
 ne:wb≠hb
 ltw:wb < base
 lth:hb < base
 size:base<=w.heap.size
 c0:w.cell? ⟨wb,0,none⟩=some (.slice g.a g.n g.c)
 c1:w.cell? ⟨wb,1,none⟩=some (.slice f.a f.n f.c)
 c2:w.cell? ⟨wb,2,none⟩=some (.slice (some ⟨hb,0,none⟩) f.n f.n)
 c3:w.cell? ⟨wb,3,none⟩=some tv
 fz:w.frozen? ⟨wb,3,none⟩=false
 row:w.rowIs hb 3 f.n (fun i=>.int .i64 (H i))
 own:w.ownsRow base 3 1 tv T.length (mA T)
def rP (wb hb:Nat) (tv:Value) (k:Nat):Prop:=k=wb\/k=hb\/tv.ownBlock=some k
theorem M2.but (h:M2 w g f wb hb base H T tv) (hb':L0d w w'):M2 w' g f wb hb base H T tv:=by
 have hw:wb < w.heap.size:=L0a h.ltw h.size;have hh:hb < w.heap.size:=L0a h.lth h.size;refine⟨h.ne,h.ltw,h.lth,L5a h.size hb'.size,?_,?_,?_,?_,?_,h.row.of_block (hb'.block hb hh),?_⟩
 ·rw [hb'.cell hw];exact h.c0
 ·rw [hb'.cell hw];exact h.c1
 ·rw [hb'.cell hw];exact h.c2
 ·rw [hb'.cell hw];exact h.c3
 ·rw [hb'.frozen hw];exact h.fz
 ·refine h.own.kept (row:=none) ⟨hb'.os,hb'.tape,hb'.output,hb'.size,fun k hk _=>hb'.block k hk⟩ ?_
  cases hv:tv.ownBlock with
  | none=>exact L4a rfl
  | some k=>exact L4b R5
def oV (n:Nat) (H:Nat->Int) (T:List Nat) (pc:Nat) (height:Int) (H':Nat->Int) (T':List Nat) (ok:Bool):Prop :=
 (ok=false/\n<=pc)\/(ok=false/\pc < n/\H pc ≠ -1/\H pc≠height) \/
 (ok=true/\pc < n/\H pc ≠ -1/\H pc=height/\H'=H/\T'=T) \/
 (ok=true/\pc < n/\H pc = -1/\H'=(fun i=>if i=pc then height else H i)/\T'=T++[pc])
def rJ (g:PgR) (f:FnR) (wb hb base:Nat) (H:Nat->Int) (T:List Nat) (tv:Value) (pc:Nat) (height:Int) (w:World) (e:Ending) (w':World):Prop :=
 ∃H' T' tv' ok,e=.returned (.bool ok)/\M2 w' g f wb hb base H' T' tv'/\oV f.n H T pc height H' T' ok/\But (rP wb hb tv) w w'
theorem lJ {pc:Nat} {height:Int} {e:Ending} (H':Nat->Int) (T':List Nat) (tv':Value) (ok:Bool)
  (he:e=.returned (.bool ok)) (hw:M2 w' g f wb hb base H' T' tv') (hs:oV f.n H T pc height H' T' ok) (hb':But (rP wb hb tv) w w'):rJ g f wb hb base H T tv pc height w e w':=⟨H',T',tv',ok,he,hw,hs,hb'⟩
theorem bY (g:PgR) (f:FnR) (wb hb base:Nat) (H:Nat->Int) (T:List Nat) (tv:Value) (pc:Nat) (height:Int) (w:World) (hw:M2 w g f wb hb base H T tv) (hT:T.length<=60) :
  Calls prog 216 #[.pointer (some ⟨wb,0,none⟩),.int .i64 (pc:Int),.int .i64 height] w fun e w'=>rJ g f wb hb base H T tv pc height w e w':=by
 have c1:=hw.c1;have c2:=hw.c2;have c3:=hw.c3;have fz:=hw.fz;have xn:wb < w.heap.size:=L0a hw.ltw hw.size;have xm:hb < w.heap.size:=L0a hw.lth hw.size;by_cases hlt:pc < f.n
 ·have kh:=hw.row.cell hlt
  have kf:=hw.row.frozen pc;by_cases hm:H pc = -1
  ·have xl:(H pc == -1)=true:=beq_iff_eq.2 hm
   have HM:=(show Hid _ from hm);clear hm;obtain⟨i0,hi,xh,xj,xi⟩:=info_parts a5V;have xg:=hw.ne;go_enter func216,ntmps216;go_wp2_with (at_builtin;refine wpList_append_own _ rfl (.tmp 33) (.tmp 35) 24 rfl base 3 i0 (.int .i64 0) 1 8 underlying24 hi xh xj xi rfl R3 tv T.length (mA T) rfl ((ownsRow_setCell_below hw.own hw.lth _).alloc _) ⟨w.heap.size,0,none⟩ 1 1 [.int .i64 (pc:Int)] rfl rfl ?c1 ?c2 ?c3 ?c4 ?c5 ?_)
   case c1 =>
    intro j u hj
    match j,hj with
    | 0,hj=>simp at hj;subst hj;simp [Addr.add];go_simp
   case c2=>intro u hu;simp at hu;subst hu;rfl
   case c3=>unfold maxLen;omega
   case c4=>omega
   case c5=>have:=hw.size;simp;omega
   ·intro v' w1 hown' hgrow _
    obtain⟨gb,xb,xk,xf⟩:∃gb xb,v'=.slice (some ⟨gb,0,none⟩) (T.length+1) xb/\base<=gb:=by
     rcases hown'.2 with ⟨_,h0⟩ | ⟨gb,xb,_,hv,xf,_⟩
     ·omega
     ·exact ⟨gb,xb,hv,xf⟩
    subst xk;have xa:∀k,k < base->some k≠tv.ownBlock:=fun k hk e=>by have:=(hw.own.lt k e.symm).1;omega
    have d2:w1.cell? ⟨wb,2,none⟩=some (.slice (some ⟨hb,0,none⟩) f.n f.n):=hgrow.cell Q9 (xa wb hw.ltw);have d3:w1.cell? ⟨wb,3,none⟩=some tv:=hgrow.cell Q9 (xa wb hw.ltw);have d4:w1.cell? ⟨hb,pc,none⟩=some (.int .i64 height):=hgrow.cell Q9 (xa hb hw.lth);have dz:w1.frozen? ⟨wb,3,none⟩=false:=by
     rw[L0c (w':=w1) (hgrow.block wb Q8 (xa wb hw.ltw))];go_simp
    have d0:w1.cell? ⟨wb,0,none⟩=some (.slice g.a g.n g.c):=hgrow.cell (by have:=hw.c0;go_simp) (xa wb hw.ltw);have d1:w1.cell? ⟨wb,1,none⟩=some (.slice f.a f.n f.c):=hgrow.cell Q9 (xa wb hw.ltw);have xd:w1.rowIs hb 3 f.n (fun i=>.int .i64 (if i=pc then height else H i)) :=
     (((hw.row.set pc (.int .i64 height)).alloc (Obj.cells #[.int .i64 (pc:Int)] 3)).of_block (hgrow.block hb Q8 (xa hb hw.lth))).congr (fun j _=>by by_cases e:j=pc <;> simp [e])
    have xc:But (rP wb hb tv) w w1:=(((But.refl _ w).setCell (p:=⟨hb,pc,none⟩) (L4a (L4b (L4a rfl))) (.int .i64 height)).alloc (Obj.cells #[.int .i64 (pc:Int)] 3)).trans
     ⟨hgrow.os,hgrow.tape,hgrow.output,hgrow.size,fun k hk hs=>hgrow.block k hk (fun e=>hs (L4b (L4b e.symm)))⟩
    have xe:base<=w1.heap.size:=L5a hw.size (L5a R5 hgrow.size);clear hgrow c1 c2 c3 kh kf fz;go_wp2
    go_ret;refine lJ (fun i=>if i=pc then height else H i) (T++[pc]) (.slice (some ⟨gb,0,none⟩) (T.length+1) xb) true ?_ ⟨xg,hw.ltw,hw.lth,by simpa using xe,?_,?_,?_,?_,?_,xd.setOther (by exact xg.symm) _,?_⟩ (L4b (L4b (L4b ⟨rfl,hlt,HM.out,rfl,rfl⟩))) (xc.setCell (p:=⟨wb,3,none⟩) (L4a (L4a rfl)) _)
    all_goals go_light
    ·simp
    ·go_simp
    ·go_simp
    ·go_simp
    ·go_simp
    ·go_simp
    ·have:=ownsRow_setCell_below hown' (a:=⟨wb,3,none⟩) hw.ltw (.slice (some ⟨gb,0,none⟩) (T.length+1) xb)
     simpa [mA] using this
  ·have xl:(H pc == -1)=false:=L2c.2 hm
   go_enter func216,ntmps216;go_wp2
   go_ret;refine lJ H T tv (H pc == height) rfl hw ?_ (But.refl _ _)
   cases hq:H pc == height
   ·exact L4b (L4a ⟨rfl,hlt,hm,by simpa using hq⟩)
   ·exact L4b (L4b (L4a ⟨rfl,hlt,hm,by simpa using hq,rfl,rfl⟩))
 ·go_enter func216,ntmps216
  go_wp2
  go_ret;exact lJ H T tv false rfl hw (L4a ⟨rfl,by omega⟩) (But.refl _ _)
end
section
variable {B base hb pc wb:Nat} {H H':Nat->Int} {T T':List Nat} {e:Ending} {f:FnR} {g:PgR} {w w':World}
def qH (k:Nat):Int:=if k=14 then -1 else O1 k 0
def dE (k:Nat):Int:=if k=12 then 1 else if k=13 then 2 else if k=15\/k=27 then 3 else 0
def N2 (k:Nat):Nat:=if k=0 then 255 else if k=2\/k=3 then 259 else if k=12\/k=13 then 270 else if k=14 then 273 else if k=16 then 276 else if k=19\/k=20 then 280 else 257
def a6L:List Nat:=[256,258,260,261,262,263,264,265,266,267,268,269,271,272,274,275,277,278,279,281,282,283,284,285,286,287,288,289]
def doT (k:Nat):Nat:=a6L.getD k 0
def Tab (w:World):Prop:=0 < w.heap.size/\∀k,k < 28->w.cell? ⟨0,k*5,none⟩=some (.int .i64 (qH k))/\w.cell? ⟨0,k*5+1,none⟩=some (.int .i64 (M9 k)) /\
 w.cell? ⟨0,k*5+2,none⟩=some (.int .i64 (dE k))/\w.cell? ⟨0,k*5+3,none⟩=some (.func (.func (N2 k)) #[] #[]) /\
 w.cell? ⟨0,k*5+4,none⟩=some (.func (.func (doT k)) #[] #[])
theorem Tab.below (h:Tab w) (hB:0 < B) (hb:Below B w w'):Tab w' :=
 ⟨L0a h.1 hb.size,fun k hk=>by
  rw[hb.cell (p:=⟨0,k*5,none⟩) hB,hb.cell (p:=⟨0,k*5+1,none⟩) hB,hb.cell (p:=⟨0,k*5+2,none⟩) hB,hb.cell (p:=⟨0,k*5+3,none⟩) hB,hb.cell (p:=⟨0,k*5+4,none⟩) hB];exact h.2 k hk⟩
theorem mF (B:Nat) (g:PgR) (k:Nat) (x:Int) (w:World) (hB:B<=w.heap.size) (hg:I5 B w g) (ht:Tab w) (hk:k < 28) (hx:(k:Int)=14->0<=x/\x < g.n) :
  Calls Tryz.prog 180 #[.agg #[.slice g.a g.n g.c],.agg #[.int .i64 (k:Int),.int .i64 x]] w fun e w'=>e=.returned (.int .i64 (O1 k (g.f x.toNat).p))/\L0d w w':=by
 have hc:=(ht.2 k hk).1;by_cases h:k=14
 ·obtain ⟨h0,h1⟩:=hx R4
  obtain⟨y,rfl⟩:=L5c h0;obtain⟨ha,hb,xa⟩:=hg.2.1 R4;subst h;rw[ha,Int.toNat_natCast,show O1 ((14:Nat):Int) (g.f y).p=(g.f y).p by simp [O1]];exact tP g.b g.o g.n g.c y _ w ht.1 R4 R4 (by simpa [qH] using hc) (xa y R4).1
 ·have e:O1 (k:Int) (g.f x.toNat).p=qH k:=by
   unfold qH;rw [if_neg h];unfold O1;rw[if_neg (show ¬(k:Int)=14 by omega),if_neg (show ¬(k:Int)=14 by omega)]
  rw[e];refine qI _ _ _ k x _ w ht.1 hk ?_ hc;have hz:0<=qH k:=by unfold qH;rw [if_neg h];exact (zM _ _ (fun _=>by omega)).1
  rw[bne_iff_ne];omega
def Inv (F:G1) (H:Nat->Int) (T:List Nat):Prop :=
 (∀a,a < F.n -> -1<=H a/\H a<=10/\(0<=H a->F.Reach a (H a)))/\(∀t,t∈T->t < F.n/\0<=H t)
def Ext (n:Nat) (H:Nat->Int) (T:List Nat) (H':Nat->Int) (T':List Nat):Prop :=
 (∀a,0<=H a->H' a=H a)/\(∀t,t∈T->t∈T')/\(∀a,a < n->0<=H' a->0<=H a\/a∈T')/\T'.length+left n H'<=T.length+left n H
theorem Ext.refl (n:Nat) (H:Nat->Int) (T:List Nat):Ext n H T H T:=⟨fun _ _=>rfl,fun _ h=>h,fun _ _ h=>L4a h,L1c _⟩
theorem Ext.trans {n:Nat} {H'':Nat->Int} {T'':List Nat} (h:Ext n H T H' T') (k:Ext n H' T' H'' T''):Ext n H T H'' T'' :=
 ⟨fun a ha=>by rw [k.1 a (by rw [h.1 a ha];exact ha),h.1 a ha],fun t ht=>k.2.1 t (h.2.1 t ht),
  fun a ha hz=>(k.2.2.1 a ha hz).elim (fun h'=>(h.2.2.1 a ha h').imp id (k.2.1 a)) L4b,L5a k.2.2.2 h.2.2.2⟩
theorem eN {F:G1} {a c:Nat} {b v:Int} {ok:Bool} (hi:Inv F H T) (hr:F.Reach a b) (hc:c∈F.next a) (hv:F.behind a b=v) (h0:0<=v) (h10:v<=10)
  (hs:oV F.n H T c v H' T' ok):(ok=false/\¬F.Fits)\/(ok=true/\Inv F H' T'/\Ext F.n H T H' T'/\c < F.n/\H' c=v):=by
 have xa:F.Reach c v:=hv▸G1.reach_next hr hc;rcases hs with ⟨rfl,hn⟩ | ⟨rfl,hn,h1,h2⟩ | ⟨rfl,hn,h1,h2,rfl,rfl⟩ | ⟨rfl,hn,h1,rfl,rfl⟩
 ·exact L4a ⟨rfl,G1.not_fits_past hr hc hn⟩
 ·have:=hi.1 c hn
  exact L4a ⟨rfl,G1.not_fits_two hr hc (this.2.2 R4) (by rw [hv];exact h2)⟩
 ·exact L4b ⟨rfl,hi,Ext.refl _ _ _,hn,h2⟩
 ·refine L4b ⟨rfl,⟨fun x hx=>?_,fun t ht=>?_⟩,⟨fun x hx=>?_,fun t ht=>List.mem_append_left _ ht,fun x hx hz=>?_,?_⟩,hn,by simp⟩
  ·by_cases e:x=c
   ·subst e;simp only [if_pos];exact ⟨by omega,h10,fun _=>xa⟩
   ·simp only [if_neg e];exact hi.1 x hx
  ·rcases List.mem_append.1 ht with ht | ht
   ·obtain ⟨p,q⟩:=hi.2 t ht
    refine⟨p,?_⟩;by_cases e:t=c
    ·subst e;simpa using h0
    ·simpa only [if_neg e] using q
   ·obtain rfl:t=c:=by simpa using ht
    exact⟨hn,by simpa using h0⟩
  ·have:x≠c:=by intro e;subst e;omega
   simp only[if_neg this]
  ·by_cases e:x=c
   ·subst e;exact L4b R5
   ·simp only [if_neg e] at hz;exact L4a hz
  ·have:=iH hn (show H c < 0 by omega) h0
   simp only[List.length_append,List.length_cons,List.length_nil];omega
theorem W0 {tv:Value} (h:M2 w g f wb hb base H T tv) {B:Nat} (h1:B<=wb) (h2:B<=hb):∀k,k < B->¬rP wb hb tv k:=by
 rintro k hk (rfl | rfl | he)
 ·omega
 ·omega
 ·have:=(h.own.lt k he).1;have:=h.ltw;omega
def jB (B:Nat) (g:PgR) (f:FnR) (wb hb base:Nat) (H:Nat->Int) (T:List Nat) (pc:Nat) (w:World) (e:Ending) (w':World):Prop :=
 ∃ok H' T' tv',e=.returned (.bool ok)/\Below B w w'/\((ok=false/\¬(B6 g f).Fits)\/(ok=true/\M2 w' g f wb hb base H' T' tv'/\Inv (B6 g f) H' T'/\Ext f.n H T H' T'/\(B6 g f).Shut H' pc))
theorem S8 (he:e=.returned (.bool false)) (hb':Below B w w') (hn:¬(B6 g f).Fits) :
  jB B g f wb hb base H T pc w e w':=⟨false,H,T,.slice none 0 0,he,hb',L4a ⟨rfl,hn⟩⟩
theorem Z4 (H':Nat->Int) (T':List Nat) (tv':Value) (he:e=.returned (.bool true)) (hb':Below B w w')
  (hw:M2 w' g f wb hb base H' T' tv') (hi:Inv (B6 g f) H' T') (hx:Ext f.n H T H' T') (hs:(B6 g f).Shut H' pc):jB B g f wb hb base H T pc w e w':=⟨true,H',T',tv',he,hb',L4b ⟨rfl,hw,hi,hx,hs⟩⟩
end
section
variable {e n s size:Nat} {g:PgR} {v:Value} {w w':World} {xs:List Value} {α:Type}
theorem X1 {c:α->List Value} (hc:∀x,(c x).length=s) (l:List α):(l.flatMap c).length=l.length*s:=by
 induction l with
 | nil=>simp
 | cons a l ih=>simp [List.flatMap_cons,hc,ih,Nat.add_mul];omega
theorem E0 {c:α->List Value} (hc:∀x,(c x).length=s) {l:List α} {i j:Nat} {x:α} (hi:l[i]?=some x) (hj:j < s):(l.flatMap c)[i*s+j]?=(c x)[j]?:=by
 induction l generalizing i with
 | nil=>simp at hi
 | cons a l ih =>
  cases i with
  | zero =>
   simp at hi;subst hi;rw[List.flatMap_cons,List.getElem?_append_left (by rw [hc];omega)];simp
  | succ i =>
   simp at hi;rw[List.flatMap_cons,List.getElem?_append_right (by rw [hc,Nat.succ_mul];omega),hc,show (i+1)*s+j - s=i*s+j by rw [Nat.succ_mul];omega];exact ih hi
theorem eQ {c:α->List Value} (hc:∀x,(c x).length=s) (l:List α) (k:Nat):(l.take k).flatMap c=(l.flatMap c).take (k*s):=by
 induction l generalizing k with
 | nil=>simp
 | cons a l ih =>
  cases k with
  | zero=>simp
  | succ k =>
   have e:List.take ((k+1)*s) (c a)=c a:=List.take_of_length_le (by rw [hc,Nat.succ_mul];omega);rw[List.take_succ_cons,List.flatMap_cons,List.flatMap_cons,List.take_append,ih,hc,show (k+1)*s - s=k*s by rw [Nat.succ_mul];omega,e]
theorem G2 {c:α->List Value} (hc:∀x,(c x).length=s) {l:List α} {i j:Nat} {x y:α} {u:Value} (hi:l[i]?=some x) (hj:j < s) (hy:c y=(c x).set j u) :
  (l.set i y).flatMap c=(l.flatMap c).set (i*s+j) u:=by
 induction l generalizing i with
 | nil=>simp at hi
 | cons a l ih =>
  cases i with
  | zero =>
   simp at hi;subst hi;rw[List.set_cons_zero,List.flatMap_cons,List.flatMap_cons,List.set_append_left _ _ (by rw [hc];omega),hy];simp
  | succ i =>
   simp at hi;rw[List.set_cons_succ,List.flatMap_cons,List.flatMap_cons,List.set_append_right _ _ (by rw [hc,Nat.succ_mul];omega),hc,show (i+1)*s+j - s=i*s+j by rw [Nat.succ_mul];omega,ih hi]
abbrev Val:=Int × Int
def O4 (v:Val):List Value:=[.int .u8 v.1,.int .i64 v.2]
def A5 (l:List Val):List Value:=l.flatMap O4
theorem F7 (v:Val):(O4 v).length=2:=rfl
structure FrR where
 fn:Nat
 pc:Nat
 lv:Value
 sv:Value
 loc:List Val
 stk:List Val
def FrR.cells (f:FrR):List Value:=[.int .i64 f.fn,.int .i64 f.pc,f.lv,f.sv]
theorem FrR.cells_len (f:FrR):f.cells.length=4:=rfl
structure ObR where
 kind:Int
 fv:Value
 fl:List Val
def ObR.cells (o:ObR):List Value:=[.int .u8 o.kind,o.fv]
theorem ObR.cells_len (o:ObR):o.cells.length=2:=rfl
structure McR where
 st:Int
 ov:Value
 out:List Int
 cv:Value
 frs:List FrR
 hv:Value
 obs:List ObR
 dv:Value
 dr:List Int
inductive Tag where
 | mach | out | called | slots | draws
 | loc (i:Nat) | stk (i:Nat) | fld (j:Nat)
abbrev Own:=Nat->Option Tag
def Row (w:World) (own:Own) (t:Tag) (e size:Nat) (v:Value) (n:Nat) (xs:List Value):Prop :=
 w.ownsRow 0 e size v n xs/\∀b,v.ownBlock=some b->own b=some t
def PgR.blk (g:PgR) (k:Nat):Prop:=(0 < g.n/\k=g.b)\/∃i,i < g.n/\0 < (g.f i).n/\k=(g.f i).b
structure A4 (w:World) (own:Own) (mb:Nat) (g:PgR) (R:McR):Prop where
 lt:∀k t,own k=some t->k < w.heap.size
 me:own mb=some .mach
 c0:w.cell? ⟨mb,0,none⟩=some (.slice g.a g.n g.c)
 c1:w.cell? ⟨mb,1,none⟩=some (.int .i64 R.st)
 c2:w.cell? ⟨mb,2,none⟩=some R.ov
 c3:w.cell? ⟨mb,3,none⟩=some R.cv
 c4:w.cell? ⟨mb,4,none⟩=some R.hv
 fz:∀j,w.frozen? ⟨mb,j,none⟩=false
 out:Row w own .out 3 1 R.ov R.out.length (R.out.map fun n=>.int .i64 n)
 called:Row w own .called 86 4 R.cv R.frs.length (R.frs.flatMap FrR.cells)
 slots:Row w own .slots 90 2 R.hv R.obs.length (R.obs.flatMap ObR.cells)
 loc:∀i f,R.frs[i]?=some f->Row w own (.loc i) 92 2 f.lv f.loc.length (A5 f.loc)
 stk:∀i f,R.frs[i]?=some f->Row w own (.stk i) 92 2 f.sv f.stk.length (A5 f.stk)
 fld:∀j o,R.obs[j]?=some o->Row w own (.fld j) 92 2 o.fv o.fl.length (A5 o.fl)
 pg:I5 w.heap.size w g
 ro:∀k,g.blk k->own k=none
 tab:Tab w
 ro0:own 0=none
 c5:w.cell? ⟨mb,5,none⟩=some R.dv
 draws:Row w own .draws 3 1 R.dv R.dr.length (R.dr.map fun n=>.int .i64 n)
theorem A6 {base:Nat} (h:w.ownsRow base e size v n xs) (hb:∀b,v.ownBlock=some b->w'.heap[b]?=w.heap[b]?):w'.ownsRow base e size v n xs:=by
 refine⟨h.1,h.2.imp id ?_⟩;rintro⟨g,xa,xb,rfl,h1,h2,h3⟩;exact⟨g,xa,xb,rfl,h1,(hb g rfl).trans h2,h3⟩
theorem Row.kept {own own':Own} {t:Tag} (h:Row w own t e size v n xs) (hk:∀k,own k=some t->w'.heap[k]?=w.heap[k]?/\own' k=some t):Row w' own' t e size v n xs :=
 ⟨A6 h.1 fun b hb=>(hk b (h.2 b hb)).1,fun b hb=>(hk b (h.2 b hb)).2⟩
theorem Row.cut {own:Own} {t:Tag} {g cap:Nat} (h:Row w own t e size (.slice (some ⟨g,0,none⟩) n cap) n xs) {m:Nat} (hm:m<=n):Row w own t e size (.slice (some ⟨g,0,none⟩) m cap) m (xs.take (m*size)):=by
 refine⟨⟨?_,?_⟩,fun b hb=>h.2 b hb⟩
 ·rw [List.length_take,h.1.1];exact Nat.min_eq_left (Nat.mul_le_mul_right _ hm)
 ·rcases h.1.2 with ⟨h0,_⟩ | ⟨g',xa,xb,hv,h1,h2,h3,h4,h5,h6⟩
  ·cases h0
  ·cases hv
   refine L4b ⟨g,cap,xb,rfl,h1,h2,by omega,h4,h5,?_⟩;rw[<- h6,List.take_take,Nat.min_eq_left (Nat.mul_le_mul_right _ hm)]
theorem I5.held (h:I5 w.heap.size w g) (hs:w.heap.size<=w'.heap.size) (hk:∀k,g.blk k->w'.heap[k]?=w.heap[k]?):I5 w'.heap.size w' g:=by
 refine⟨h.1,fun hn=>?_,fun i hi=>⟨(h.2.2 i hi).1,fun hn=>?_⟩⟩
 ·obtain ⟨h1,h2,h3⟩:=h.2.1 hn
  refine⟨h1,by omega,fun i hi=>?_⟩;have e:=hk g.b (L4a ⟨hn,rfl⟩);rw[L0b (w:=w) (a:=⟨g.b,g.o+i*3,none⟩) e,L0b (w:=w) (a:=⟨g.b,g.o+i*3+1,none⟩) e,L0b (w:=w) (a:=⟨g.b,g.o+i*3+2,none⟩) e];exact h3 i hi
 ·obtain ⟨h1,h2,h3⟩:=(h.2.2 i hi).2 hn
  refine⟨h1,by omega,fun j hj=>?_⟩;have e:=hk (g.f i).b (L4b ⟨i,hi,hn,rfl⟩);rw[L0b (w:=w) (a:=⟨(g.f i).b,(g.f i).o+j*2,none⟩) e,L0b (w:=w) (a:=⟨(g.f i).b,(g.f i).o+j*2+1,none⟩) e];exact h3 j hj
theorem I5.blk_lt (h:I5 w.heap.size w g) {k:Nat} (hk:g.blk k):k < w.heap.size:=by
 rcases hk with ⟨hn,rfl⟩ | ⟨i,hi,hn,rfl⟩
 ·exact (h.2.1 hn).2.1
 ·exact ((h.2.2 i hi).2 hn).2.1
theorem Tab.held (h:Tab w) (hs:w.heap.size<=w'.heap.size) (hk:w'.heap[0]?=w.heap[0]?):Tab w' :=
 ⟨L0a h.1 hs,fun k hk'=>by
  rw[L0b (w:=w) (a:=⟨0,k*5,none⟩) hk,L0b (w:=w) (a:=⟨0,k*5+1,none⟩) hk,L0b (w:=w) (a:=⟨0,k*5+2,none⟩) hk,
   L0b (w:=w) (a:=⟨0,k*5+3,none⟩) hk,L0b (w:=w) (a:=⟨0,k*5+4,none⟩) hk]
  exact h.2 k hk'⟩
structure A2 (own:Own) (w:World) (own':Own) (w':World):Prop where
 os:w'.os=w.os
 tape:w'.tape=w.tape
 output:w'.output=w.output
 size:w.heap.size<=w'.heap.size
 block:∀k,k < w.heap.size->own k=none->w'.heap[k]?=w.heap[k]?
 old:∀k,k < w.heap.size->own' k=own k
theorem A2.refl (own:Own) (w:World):A2 own w own w:=⟨rfl,rfl,rfl,L1c _,fun _ _ _=>rfl,fun _ _=>rfl⟩
theorem A2.trans {own own' own'':Own} {w'':World} (h:A2 own w own' w') (k:A2 own' w' own'' w''):A2 own w own'' w'' :=
 ⟨k.os.trans h.os,k.tape.trans h.tape,k.output.trans h.output,L5a h.size k.size,
  fun i hi hn=>(k.block i (L0a hi h.size) (by rw [h.old i hi];exact hn)).trans (h.block i hi hn),
  fun i hi=>(k.old i (L0a hi h.size)).trans (h.old i hi)⟩
end
section
variable {R:McR} {e mb n size:Nat} {f:FrR} {fs:List FrR} {g:PgR} {own:Own} {t:Tag} {v:Value} {w w':World} {xs:List Value}
def Own.upd (own:Own) (b:Option Nat) (t:Tag):Own:=fun k=>if b=some k then some t else own k
theorem Own.upd_none (own:Own) (t:Tag):own.upd none t=own:=by funext k;simp [Own.upd]
theorem Own.upd_same {b:Nat} (h:own b=some t):own.upd (some b) t=own:=by
 funext k;unfold Own.upd;split
 ·rename_i e;cases e;exact h.symm
 ·rfl
def E3 (w:World) (own:Own) (v:Value) (t:Tag):Prop:=∀b,v.ownBlock=some b->own b=some t\/w.heap.size<=b
theorem Own.upd_old (h:E3 w own v t) {k:Nat} (hk:k < w.heap.size):own.upd v.ownBlock t k=own k:=by
 unfold Own.upd;split
 ·rename_i e
  rcases h k e with h1 | h1
  ·exact h1.symm
  ·omega
 ·rfl
theorem Own.upd_lt {base:Nat} (hlt:∀k t,own k=some t->k < w.heap.size) (hs:w.heap.size<=w'.heap.size) (hv:w'.ownsRow base e size v n xs) :
  ∀k u,own.upd v.ownBlock t k=some u->k < w'.heap.size:=by
 intro k u h;unfold Own.upd at h;split at h
 ·rename_i e;exact (hv.lt k e).2
 ·exact L0a (hlt k u h) hs
theorem Row.upd {s:Tag} {v':Value} (hlt:∀k t,own k=some t->k < w.heap.size) (hon:E3 w own v' t) (h:Row w own s e size v n xs) (hk:∀k,own k=some s->w'.heap[k]?=w.heap[k]?) :
  Row w' (own.upd v'.ownBlock t) s e size v n xs :=
 h.kept fun k hs=>⟨hk k hs,by rw [Own.upd_old hon (hlt k s hs)];exact hs⟩
theorem A4.top (h:A4 w own mb g R) (hf:R.frs=fs++[f]) :
  ∃cb cc,R.cv=.slice (some ⟨cb,0,none⟩) (fs.length+1) cc/\own cb=some .called/\cb < w.heap.size/\(∀j,w.frozen? ⟨cb,j,none⟩=false) /\
   w.cell? ⟨cb,fs.length*4,none⟩=some (.int .i64 f.fn)/\w.cell? ⟨cb,fs.length*4+1,none⟩=some (.int .i64 f.pc)/\w.cell? ⟨cb,fs.length*4+2,none⟩=some f.lv/\w.cell? ⟨cb,fs.length*4+3,none⟩=some f.sv:=by
 have hc:=h.called;rw[hf] at hc;obtain⟨cb,cc,hv,_,xb⟩:=hc.1.form R5;have hl:(fs++[f]).length=fs.length+1:=by simp
 rw[hl] at hc hv;rw[hv] at hc;have hg:(fs++[f])[fs.length]?=some f:=by simp
 have xa:∀j,j < 4->w.cell? ⟨cb,fs.length*4+j,none⟩=f.cells[j]?:=fun j hj=>by
  rw[hc.1.cellAt _ R4];exact E0 FrR.cells_len hg hj
 exact⟨cb,cc,hv,hc.2 cb rfl,xb,fun j=>hc.1.frozenAt j,xa 0 R4,xa 1 R4,xa 2 R4,xa 3 R4⟩
theorem A4.setTop {R:McR} {f':FrR} (h:A4 w own mb g R) (hf:R.frs=fs++[f]) (hlv:f'.lv=f.lv) (hloc:f'.loc=f.loc) (hsize:w.heap.size<=w'.heap.size)
  (hk:∀k,k < w.heap.size->own k≠some .called->own k≠some (.stk fs.length)->w'.heap[k]?=w.heap[k]?)
  (hcalled:w'.ownsRow 0 86 4 R.cv (fs.length+1) ((fs++[f']).flatMap FrR.cells)) (hst:w'.ownsRow 0 92 2 f'.sv f'.stk.length (A5 f'.stk)) (hon:E3 w own f'.sv (.stk fs.length)) :
  A4 w' (own.upd f'.sv.ownBlock (.stk fs.length)) mb g { R with frs:=fs++[f'] }:=by
 have xa:=h.lt;have keep:∀t,t≠.called->t≠.stk fs.length->∀k,own k=some t->w'.heap[k]?=w.heap[k]?:=fun t h1 h2 k hk' =>
  hk k (xa k t hk') (by rw [hk'];exact fun e=>h1 (L5b e)) (by rw [hk'];exact fun e=>h2 (L5b e))
 have xb:=keep .mach R5 R5 mb h.me;have xc:∀i x,(fs++[f'])[i]?=some x->(i=fs.length/\x=f')\/(i≠fs.length/\R.frs[i]?=some x):=fun i x hx=>by
  by_cases e:i=fs.length
  ·subst e;simp at hx;exact L4a ⟨rfl,hx.symm⟩
  ·refine L4b ⟨e,?_⟩
   rw[hf];rcases Nat.lt_or_ge i fs.length with hl | hl
   ·rw [List.getElem?_append_left hl] at hx ⊢;exact hx
   ·rw [List.getElem?_append_right hl] at hx
    rw[List.getElem?_eq_none Q8] at hx;cases hx
 refine⟨Own.upd_lt xa hsize hst,?_,?_,?_,?_,?_,?_,?_,?_,?_,?_,?_,?_,?_,?_,?_,?_,?_,?_,?_⟩
 ·rw [Own.upd_old hon (xa mb _ h.me)];exact h.me
 ·rw [L0b (w:=w) (a:=⟨mb,0,none⟩) xb];exact h.c0
 ·rw [L0b (w:=w) (a:=⟨mb,1,none⟩) xb];exact h.c1
 ·rw [L0b (w:=w) (a:=⟨mb,2,none⟩) xb];exact h.c2
 ·rw [L0b (w:=w) (a:=⟨mb,3,none⟩) xb];exact h.c3
 ·rw [L0b (w:=w) (a:=⟨mb,4,none⟩) xb];exact h.c4
 ·intro j;rw [L0c (w:=w) (a:=⟨mb,j,none⟩) xb];exact h.fz j
 ·exact h.out.upd xa hon (keep _ R5 R5)
 ·refine ⟨by simpa using hcalled,fun b hb=>?_⟩
  have:=h.called.2 b hb;rw[Own.upd_old hon (xa b _ this)];exact this
 ·exact h.slots.upd xa hon (keep _ R5 R5)
 ·intro i x hx
  rcases xc i x hx with ⟨rfl,rfl⟩ | ⟨_,hx⟩
  ·rw [hlv,hloc]
   exact (h.loc fs.length f (by rw [hf];simp)).upd xa hon (keep _ R5 R5)
  ·exact (h.loc i x hx).upd xa hon (keep _ R5 R5)
 ·intro i x hx
  rcases xc i x hx with ⟨rfl,rfl⟩ | ⟨xd,hx⟩
  ·refine ⟨hst,fun b hb=>?_⟩
   simp[Own.upd,hb]
  ·exact (h.stk i x hx).upd xa hon (keep _ R5 (by simpa using xd))
 ·intro j o ho
  exact (h.fld j o ho).upd xa hon (keep _ R5 R5)
 ·exact h.pg.held hsize fun k hb=>hk k (h.pg.blk_lt hb) (by rw [h.ro k hb];simp) (by rw [h.ro k hb];simp)
 ·intro k hb;rw [Own.upd_old hon (h.pg.blk_lt hb)];exact h.ro k hb
 ·exact h.tab.held hsize (hk 0 h.tab.1 (by rw [h.ro0];simp) (by rw [h.ro0];simp))
 ·rw [Own.upd_old hon h.tab.1];exact h.ro0
 ·rw [L0b (w:=w) (a:=⟨mb,5,none⟩) xb];exact h.c5
 ·exact h.draws.upd xa hon (keep _ R5 R5)
theorem K3 (mb cb n cc:Nat) (w:World) (hn:n<=1000) (hc:w.cell? ⟨mb,3,none⟩=some (.slice (some ⟨cb,0,none⟩) (n+1) cc)) :
  Calls prog 178 #[.pointer (some ⟨mb,3,none⟩)] w fun e w'=>e=.returned (.pointer (some ⟨cb,n*4,none⟩))/\∃m,w'=w.drewN m:=by
 go_enter func178,ntmps178;go_wp2
 go_quiet (fail)
 go_wp2
 go_ret;exact⟨rfl,_,rfl⟩
def yU (sb s k:Nat) (w:World) (e:Ending) (w':World):Prop:=∃va vc,e=.returned (.slice va k vc)/\(0 < k->va=some ⟨sb,(s - k)*2,none⟩)/\∃m,w'=w.drewN m
theorem zS {sb s k:Nat} {e:Ending} {va:Option Addr} {vc m:Nat} (hs:k<=s) (hn:n=s - (s - k)) (he:e=.returned (.slice va n vc)) (h:0 < k->va=some ⟨sb,(s - k)*2,none⟩) (hw:w'=w.drewN m):yU sb s k w e w' :=
 ⟨va,vc,by rw [he,hn,show s - (s - k)=k by omega],h,m,hw⟩
theorem a5x (mb cb n cc sb s sc k:Nat) (w:World) (hn:n<=1000) (hs:s<=1000) (hsc:s<=sc) (hk:k<=s) (hc:w.cell? ⟨mb,3,none⟩=some (.slice (some ⟨cb,0,none⟩) (n+1) cc))
  (hst:w.cell? ⟨cb,n*4+3,none⟩=some (.slice (some ⟨sb,0,none⟩) s sc)) :
  Calls prog 179 #[.pointer (some ⟨mb,3,none⟩),.int .i64 (k:Int)] w fun e w'=>yU sb s k w e w':=by
 go_enter func179,ntmps179;go_wp2_with (go_at_call 178;refine (K3 mb cb n cc _ hn hc).mono ?_;rintro e w' ⟨rfl,m,rfl⟩)
 all_goals go_ret
 ·exact zS hk rfl rfl (fun h=>by omega) rfl
 ·exact zS hk rfl rfl (fun _=>rfl) rfl
theorem a5w (mb cb n cc:Nat) (w:World) (hn:n<=1000) (hc:w.cell? ⟨mb,3,none⟩=some (.slice (some ⟨cb,0,none⟩) (n+1) cc))
  (hst:w.cell? ⟨cb,n*4+3,none⟩=some (.slice none 0 0)) :
  Calls prog 179 #[.pointer (some ⟨mb,3,none⟩),.int .i64 0] w fun e w'=>e=.returned (.slice none 0 0)/\∃m,w'=w.drewN m:=by
 go_enter func179,ntmps179;go_wp2_with (go_at_call 178;refine (K3 mb cb n cc _ hn hc).mono ?_;rintro e w' ⟨rfl,m,rfl⟩)
 all_goals go_ret
 exact⟨rfl,_,rfl⟩
theorem a2A (mb cb n cc sb s sc k:Nat) (w:World) (hn:n<=1000) (hs:s<=1000) (hsc:s<=sc) (hk:k<=s) (hc:w.cell? ⟨mb,3,none⟩=some (.slice (some ⟨cb,0,none⟩) (n+1) cc))
  (hst:w.cell? ⟨cb,n*4+3,none⟩=some (.slice (some ⟨sb,0,none⟩) s sc)) (hfz:w.frozen? ⟨cb,n*4+3,none⟩=false) :
  Calls prog 298 #[.pointer (some ⟨mb,3,none⟩),.int .i64 (k:Int)] w fun e w'=>e=.returned (.tuple #[])/\∃m,w'=(w.drewN m).setCell ⟨cb,n*4+3,none⟩ (.slice (some ⟨sb,0,none⟩) (s - k) sc):=by
 go_enter func298,ntmps298;go_wp2_with (go_at_call 178;refine (K3 mb cb n cc _ hn hc).mono ?_;rintro e w' ⟨rfl,m,rfl⟩)
 go_region
 all_goals go_wp2
 all_goals go_end0
 all_goals exact ⟨rfl,_,rfl⟩
theorem a2z (mb cb n cc:Nat) (w:World) (hn:n<=1000) (hc:w.cell? ⟨mb,3,none⟩=some (.slice (some ⟨cb,0,none⟩) (n+1) cc))
  (hst:w.cell? ⟨cb,n*4+3,none⟩=some (.slice none 0 0)) (hfz:w.frozen? ⟨cb,n*4+3,none⟩=false) :
  Calls prog 298 #[.pointer (some ⟨mb,3,none⟩),.int .i64 0] w fun e w'=>e=.returned (.tuple #[])/\∃m,w'=(w.drewN m).setCell ⟨cb,n*4+3,none⟩ (.slice none 0 0):=by
 go_enter func298,ntmps298;go_wp2_with (go_at_call 178;refine (K3 mb cb n cc _ hn hc).mono ?_;rintro e w' ⟨rfl,m,rfl⟩)
 go_region
 all_goals go_wp2
 all_goals go_end0
 all_goals exact ⟨rfl,_,rfl⟩
end
section
variable {R:McR} {cap cb cc e mb n size:Nat} {f:FrR} {fs:List FrR} {g:PgR} {own:Own} {w:World} {xs:List Value}
def a1T (cb n:Nat) (sv:Value) (s k:Nat) (xs:List Value) (w:World) (e:Ending) (w':World):Prop :=
 ∃m sv1,e=.returned (.tuple #[])/\w'=(w.drewN m).setCell ⟨cb,n*4+3,none⟩ sv1/\sv1.ownBlock=sv.ownBlock/\w.ownsRow 0 92 2 sv1 (s - k) (xs.take ((s - k)*2))
theorem tK {g:Nat} (h:w.ownsRow 0 e size (.slice (some ⟨g,0,none⟩) n cap) n xs) {m:Nat} (hm:m<=n):w.ownsRow 0 e size (.slice (some ⟨g,0,none⟩) m cap) m (xs.take (m*size)) :=
 (Row.cut (own:=fun _=>some .mach) (t:=.mach) ⟨h,fun _ _=>rfl⟩ hm).1
theorem R6 {base g:Nat} (h:w.ownsRow base e size (.slice (some ⟨g,0,none⟩) n cap) n xs):n<=cap/\g < w.heap.size:=by
 rcases h.2 with ⟨h0,_⟩ | ⟨g',xa,xb,hv,_,hg,h3,_⟩
 ·cases h0
 ·cases hv
  exact⟨h3,(L2b.1 hg).1⟩
theorem bC {B:Nat} {v:Value} (h:w.ownsRow B e size v n xs) (q:Nat):(w.drewN q).ownsRow B e size v n xs:=h
theorem lO (mb cb n cc:Nat) (sv:Value) (s k:Nat) (xs:List Value) (w:World) (hn:n<=1000) (hs:s<=1000) (hk:k<=s) (hc:w.cell? ⟨mb,3,none⟩=some (.slice (some ⟨cb,0,none⟩) (n+1) cc))
  (hst:w.cell? ⟨cb,n*4+3,none⟩=some sv) (hfz:w.frozen? ⟨cb,n*4+3,none⟩=false) (hown:w.ownsRow 0 92 2 sv s xs) :
  Calls prog 298 #[.pointer (some ⟨mb,3,none⟩),.int .i64 (k:Int)] w fun e w'=>a1T cb n sv s k xs w e w':=by
 rcases id hown.2 with ⟨rfl,rfl⟩ | ⟨sb,sc,xb,rfl,_,hg,xa,_⟩
 ·obtain rfl:k=0:=by omega
  refine (a2z mb cb n cc w hn hc hst hfz).mono ?_;rintro e w' ⟨rfl,m,rfl⟩;have:xs=[]:=List.length_eq_zero_iff.1 (by simpa using hown.1);subst this;exact⟨m,_,rfl,rfl,rfl,World.ownsRow_nil _ _ _ _⟩
 ·refine (a2A mb cb n cc sb s sc k w hn hs xa hk hc hst hfz).mono ?_
  rintro e w' ⟨rfl,m,rfl⟩;exact⟨m,_,rfl,rfl,rfl,tK hown R4⟩
theorem I2:(prog.info? 92).map (fun i=>(i.zero,i.size,i.bytes))=some (some (.agg #[.int .u8 0,.int .i64 0]),2,16):=by kernel_rfl
theorem W5 (l:List Val):∀u∈A5 l,u.oneCell'=true:=by
 intro u hu;simp only[A5,O4,List.mem_flatMap,List.mem_cons,List.not_mem_nil,or_false] at hu;obtain⟨v,_,rfl | rfl⟩:=hu <;> rfl
theorem G5 (a b:List Val):A5 (a++b)=A5 a++A5 b:=List.flatMap_append
theorem D3 (l:List Val):(A5 l).length=l.length*2:=X1 F7 l
def dL (w:World) (own:Own) (pv:Value) (ps:List Val):Prop :=
 (pv=.slice none 0 0/\ps=[])\/(0 < ps.length/\∃pb c,pv=.slice (some ⟨pb,0,none⟩) ps.length c/\own pb=none/\pb < w.heap.size/\∀j u,(A5 ps)[j]?=some u->w.cell? ⟨pb,j,none⟩=some u)
def C3 (own:Own) (mb:Nat) (g:PgR) (R:McR) (fs:List FrR) (f:FrR) (pc:Nat) (l:List Val) (r:Value) (w:World) (e:Ending) (w':World):Prop :=
 ∃own' sv',e=.returned r/\A4 w' own' mb g { R with frs:=fs++[{ f with pc:=pc,sv:=sv',stk:=l }] }/\A2 own w own' w'
theorem oG {f:FrR} (pc:Nat) (v v1:Value) (l:List Val) :
  (fs++[{ f with pc:=pc,sv:=v,stk:=l }]).flatMap FrR.cells=((((fs++[f]).flatMap FrR.cells).set (fs.length*4+3) v1).set (fs.length*4+3) v).set (fs.length*4+1) (.int .i64 pc):=by
 rw[List.set_set];have h1:((fs++[f]).flatMap FrR.cells).set (fs.length*4+3) v=((fs++[f]).set fs.length { f with sv:=v }).flatMap FrR.cells:=(G2 FrR.cells_len (x:=f) R5 R4 rfl).symm;rw[h1];rw[<- G2 FrR.cells_len (x:={ f with sv:=v }) (y:={ f with pc:=pc,sv:=v,stk:=l }) R5 R4 rfl];simp
theorem A4.topRow (h:A4 w own mb g R) (hf:R.frs=fs++[f]) (hv:R.cv=.slice (some ⟨cb,0,none⟩) (fs.length+1) cc) :
  w.ownsRow 0 86 4 (.slice (some ⟨cb,0,none⟩) (fs.length+1) cc) (fs.length+1) ((fs++[f]).flatMap FrR.cells):=by
 have:=h.called.1;rw[hf,hv] at this;simpa using this
theorem W9 (b j:Nat):(⟨b,0,none⟩:Addr).add j=⟨b,j,none⟩:=by unfold Addr.add;split <;> simp_all
theorem sS {w1 w5:World} {v' sv1:Value} {n':Nat} {l:List Val} {pc:Nat} (h:A4 w own mb g R) (hf:R.frs=fs++[f]) (hv:R.cv=.slice (some ⟨cb,0,none⟩) (fs.length+1) cc)
  (hocb:own cb=some .called) (hsb:∀b,f.sv.ownBlock=some b->b≠cb/\b≠mb/\own b=some (.stk fs.length)) (hb1:sv1.ownBlock=f.sv.ownBlock) (hs1:w1.heap.size=w.heap.size) (hk1:∀b,b≠cb->w1.heap[b]?=w.heap[b]?)
  (he1:w1.os=w.os/\w1.tape=w.tape/\w1.output=w.output) (hr1:w1.ownsRow 0 86 4 (.slice (some ⟨cb,0,none⟩) (fs.length+1) cc) (fs.length+1) (((fs++[f]).flatMap FrR.cells).set (fs.length*4+3) sv1))
  (hgrow:w1.grownBy w5 sv1.ownBlock) (hown:w5.ownsRow 0 92 2 v' n' (A5 l)) (hl:l.length=n') (hat:∀b,v'.ownBlock=some b->sv1.ownBlock=some b\/w1.heap.size<=b) (r:Value) :
  C3 own mb g R fs f pc l r w (.returned r) ((w5.setCell ⟨cb,fs.length*4+3,none⟩ v').setCell ⟨cb,fs.length*4+1,none⟩ (.int .i64 (pc:Int))):=by
 subst hl;have xj:cb < w.heap.size:=h.lt cb _ hocb;have xb:sv1.ownBlock≠some cb:=fun e=>(hsb cb (hb1▸e)).1 rfl
 have xg:E3 w own v' (.stk fs.length):=fun b hb=>by
  rcases hat b hb with hb' | hb'
  ·exact L4a (hsb b (hb1▸hb')).2.2
  ·exact L4b R4
 have xc:v'.ownBlock≠some cb:=fun e=>by
  rcases hat cb e with hb' | hb'
  ·exact xb hb'
  ·omega
 have xd:∀k,k < w.heap.size->own k≠some .called->own k≠some (.stk fs.length)->w5.heap[k]?=w.heap[k]?:=fun k hk h1 h2=>by
  have xa:k≠cb:=fun e=>h1 (by rw [e];exact hocb)
  rw[hgrow.block k R4 (fun e=>h2 (hsb k (by rw [<- hb1];exact e.symm)).2.2),hk1 k xa]
 have xf:w.heap.size<=w5.heap.size:=by have:=hgrow.size;omega
 have xi:w5.ownsRow 0 86 4 (.slice (some ⟨cb,0,none⟩) (fs.length+1) cc) (fs.length+1) (((fs++[f]).flatMap FrR.cells).set (fs.length*4+3) sv1):=hr1.kept hgrow (L4b (by simpa [Value.ownBlock] using Ne.symm xb));have xh:=(World.ownsRow.stored xi (fs.length*4+3) v').1;have xe:=(World.ownsRow.stored xh (fs.length*4+1) (.int .i64 (pc:Int))).1;rw[<- oG pc v' sv1 l] at xe;refine⟨_,v',rfl,A4.setTop (f':={ f with pc:=pc,sv:=v',stk:=l }) h hf rfl rfl (by simpa using xf) (fun k hk h1 h2=>?_) (by rw [hv];exact xe) (ownsRow_setCell_other (ownsRow_setCell_other hown xc _) xc _) xg,?_⟩
 ·have xa:k≠cb:=fun e=>h1 (by rw [e];exact hocb)
  rw[heap_setCell_other _ _ _ _ xa,heap_setCell_other _ _ _ _ xa];exact xd k hk h1 h2
 ·refine ⟨hgrow.os.trans he1.1,hgrow.tape.trans he1.2.1,hgrow.output.trans he1.2.2,by simpa using xf,fun k hk hno=>?_,fun k hk=>Own.upd_old xg hk⟩
  have xa:k≠cb:=fun e=>by rw [e,hocb] at hno;cases hno
  rw[heap_setCell_other _ _ _ _ xa,heap_setCell_other _ _ _ _ xa];exact xd k hk (by rw [hno];simp) (by rw [hno];simp)
theorem sR (h:A4 w own mb g R) (hf:R.frs=fs++[f]) (k:Nat) (hk:k<=f.stk.length) (pv:Value) (ps:List Val) (hp:dL w own pv ps)
  (hn:fs.length<=1000) (hs:f.stk.length<=1000) (hpl:ps.length<=100) (hpc:f.pc<=1000) :
  Calls prog 304 #[.pointer (some ⟨mb,3,none⟩),.int .i64 (k:Int),pv] w fun e w'=>C3 own mb g R fs f (f.pc+1) (f.stk.take (f.stk.length - k)++ps) (.tuple #[]) w e w':=by
 obtain⟨cb,cc,hv,xa,yl,xp,x0,x1,x2,x3⟩:=h.top hf;have hc:=h.c3;rw[hv] at hc;have xk:=h.topRow hf hv;have yn:mb < w.heap.size:=h.lt mb _ h.me;have yk:mb≠cb:=fun e=>by have:=h.me;rw [e,xa] at this;cases this
 have xf:=h.stk fs.length f (by rw [hf];simp);have xt:∀b,f.sv.ownBlock=some b->b≠cb/\b≠mb/\own b=some (.stk fs.length):=fun b hb=>by
  have xo:=xf.2 b hb;exact⟨fun e=>(by rw [e,xa] at xo;cases xo),fun e=>(by rw [e,h.me] at xo;cases xo),xo⟩
 obtain⟨xi,hi,hz,yg,yi⟩:=info_parts I2;have xh:=xp (fs.length*4+3);have xu:=xp (fs.length*4+1);go_enter func304,ntmps304;go_wp2_with fail;refine (lO mb cb fs.length cc f.sv f.stk.length k _ w hn hs hk hc x3 xh xf.1).mono ?_;rintro e w1 ⟨m1,sv1,rfl,xb,xs,xd⟩;have xe:sv1.ownBlock≠some cb:=fun e=>(xt cb (xs▸e)).1 rfl
 have d0:w1.cell? ⟨mb,3,none⟩=some (.slice (some ⟨cb,0,none⟩) (fs.length+1) cc):=by rw [xb];go_simp
 have d1:w1.cell? ⟨cb,fs.length*4+1,none⟩=some (.int .i64 (f.pc:Int)):=by rw [xb];go_simp
 have d3:w1.cell? ⟨cb,fs.length*4+3,none⟩=some sv1:=by rw [xb];go_simp
 have z1:∀j,w1.frozen? ⟨cb,j,none⟩=false:=fun j=>by have:=xp j;rw [xb];go_simp
 have o1:w1.ownsRow 0 92 2 sv1 (f.stk.length - k) (A5 (f.stk.take (f.stk.length - k))):=by
  rw[xb,A5,eQ F7];exact ownsRow_setCell_other (bC xd m1) xe _
 have r1:w1.ownsRow 0 86 4 (.slice (some ⟨cb,0,none⟩) (fs.length+1) cc) (fs.length+1) (((fs++[f]).flatMap FrR.cells).set (fs.length*4+3) sv1):=by
  rw[xb];exact (World.ownsRow.stored (bC xk m1) _ sv1).1
 have s1:w1.heap.size=w.heap.size:=by rw [xb];simp
 have k1:∀b,b≠cb->w1.heap[b]?=w.heap[b]?:=fun b hb=>by rw [xb];exact heap_setCell_other _ _ _ _ hb
 have e1:w1.os=w.os/\w1.tape=w.tape/\w1.output=w.output:=by rw [xb];exact ⟨rfl,rfl,rfl⟩
 have xz:dL w1 own pv ps:=by
  rcases hp with hp | ⟨h0,pb,c,h1,h2,h3,h4⟩
  ·exact L4a hp
  ·refine L4b ⟨h0,pb,c,h1,h2,by omega,fun j u hj=>?_⟩
   rw[L0b (w:=w) (a:=⟨pb,j,none⟩) (k1 pb (fun e=>by rw [e,xa] at h2;cases h2))];exact h4 j u hj
 have z3:=z1 (fs.length*4+3);have z4:=z1 (fs.length*4+1);have xn:cb < w1.heap.size:=by omega
 have ye:mb < w1.heap.size:=by omega
 have H:=(show Hid _ from h);clear h;have HF:=(show Hid _ from hf);clear hf;have HV:=(show Hid _ from hv);clear hv;have xx:=(show Hid _ from xt);clear xt;have ya:=(show Hid _ from xs);clear xs;have xr:=(show Hid _ from xe);clear xe;have HP:=(show Hid _ from xz);clear xz hp;have yc:=(show Hid _ from s1);clear s1;have yb:=(show Hid _ from k1);clear k1;have xv:=(show Hid _ from e1);clear e1
 have xq:=(show Hid _ from o1);clear o1;have xy:=(show Hid _ from r1);clear r1;have xj:=(show Hid _ from xa);clear xa;clear xb x0 x1 x2 x3 hc xh xu xp z1 xk xf xd;rcases HP.out with ⟨rfl,rfl⟩ | ⟨yh,pb,c,rfl,xw,yj,xc⟩
 ·clear HP
  have xm:sv1=.slice none 0 0\/∃gb cap,sv1=.slice (some ⟨gb,0,none⟩) (f.stk.length - k) cap:=by
   rcases xq.out.2 with ⟨e,_⟩ | ⟨gb,cap,_,e,_⟩
   ·exact L4a e
   ·exact L4b ⟨gb,cap,e⟩
  rcases xm with e | ⟨gb,cap,e⟩
  all_goals
   rw[e] at d3;go_wp2_with (first | (go_at_call 178;refine (K3 mb cb fs.length cc _ hn d0).mono ?_;rintro e w2 ⟨rfl,m2,rfl⟩) | (at_builtin;go_must (refine wpList_append_own_none rfl (.tmp 16) (.tmp 17) 84 rfl 0 92 xi 2 underlying84 hi _ (f.stk.length - k) (A5 (f.stk.take (f.stk.length - k))) rfl (e▸bC xq.out _) rfl ?_)))
   go_end0
   have:=sS (pc:=f.pc+1) (w5:=w1.drewN m2) (l:=f.stk.take (f.stk.length - k)) (v':=sv1) H.out HF.out HV.out xj.out xx.out ya.out yc.out yb.out xv.out xy.out ⟨rfl,rfl,rfl,L1c _,fun _ _ _=>rfl⟩ (bC xq.out m2) R5 (fun b hb=>L4a hb) (.tuple #[]);rw[e] at this;simpa using this
 ·have ym:=(show Hid _ from xw);clear xw
  have xg:=(show Hid _ from xc);clear xc;go_wp2_with (first | (go_at_call 178;refine (K3 mb cb fs.length cc _ hn d0).mono ?_;rintro e w2 ⟨rfl,m2,rfl⟩) | (at_builtin;go_must (refine wpList_append_lies _ rfl (.tmp 16) (.tmp 17) 84 rfl 0 92 xi _ 2 16 underlying84 hi hz yg yi rfl R3 sv1 (f.stk.length - k) (A5 (f.stk.take (f.stk.length - k))) rfl (bC xq.out _) ⟨pb,0,none⟩ ps.length c (A5 ps) rfl (D3 ps) (fun j u hj=>by rw [W9];exact xg.out j u hj) (W5 ps) yh Q5 R4 (L4c _) _ rfl ?_)))
  intro gb cap w5 hown5 hgrow5 hat5 hlt5;have q1:w5.cell? ⟨cb,fs.length*4+1,none⟩=some (.int .i64 (f.pc:Int)):=hgrow5.cell d1 (Ne.symm xr.out);have q3:w5.cell? ⟨cb,fs.length*4+3,none⟩=some sv1:=hgrow5.cell d3 (Ne.symm xr.out);have y1:w5.frozen? ⟨cb,fs.length*4+1,none⟩=false:=by rw [hgrow5.frozen_far _ xn (Ne.symm xr.out)];exact z4
  have y3:w5.frozen? ⟨cb,fs.length*4+3,none⟩=false:=by rw [hgrow5.frozen_far _ xn (Ne.symm xr.out)];exact z3
  have xl:=(show Hid _ from hgrow5);clear hgrow5;have yd:=(show Hid _ from hown5);clear hown5;have yf:=(show Hid _ from hat5);clear hat5;go_wp2_with fail;go_end0
  have:=sS (pc:=f.pc+1) (w5:=w5) (l:=f.stk.take (f.stk.length - k)++ps) H.out HF.out HV.out xj.out xx.out ya.out yc.out yb.out xv.out xy.out ⟨xl.out.os,xl.out.tape,xl.out.output,xl.out.size,xl.out.block⟩ (by rw [G5];exact yd.out) R5 (fun b hb=>by
   obtain rfl:gb=b:=by simpa [Value.ownBlock] using hb
   rcases yf.out with e | e
   ·exact L4a e
   ·exact L4b (by rw [e];exact L1c _)) (.tuple #[])
  simpa using this
end
theorem hid {p:Prop} (h:p):Hid p:=h
theorem L5 (n:Int) (w:World):Calls prog 237 #[.int .i64 n] w fun e w'=>e=.returned (.agg #[.int .u8 1,.int .i64 n])/\∃o,w'=w.alloc o:=by
 go_enter func237,ntmps237;go_wp2
 exact bodyPost_ret (v:=.agg #[.int .u8 1,.int .i64 n]) (by simp [results,results237,go_sem]) rfl ⟨rfl,_,rfl⟩
theorem C6 (k n:Int) (w:World):Calls prog 206 #[.agg #[.int .u8 k,.int .i64 n]] w fun e w'=>e=.returned (.bool (k == 1))/\∃o,w'=w.alloc o:=by
 go_enter func206,ntmps206;go_wp2
 go_ret;exact⟨rfl,_,rfl⟩
theorem S7 (k n:Int) (w:World):Calls prog 164 #[.agg #[.int .u8 k,.int .i64 n]] w fun e w'=>e=.returned (.bool (k == 2))/\∃o,w'=w.alloc o:=by
 go_enter func164,ntmps164;go_wp2
 go_ret;exact⟨rfl,_,rfl⟩
def C9 (b:Bool):Int:=if b then 1 else 0
theorem jS (b:Bool) (w:World):Calls prog 296 #[.bool b] w fun e w'=>e=.returned (.agg #[.int .u8 1,.int .i64 (C9 b)])/\∃o o',w'=(w.alloc o).alloc o':=by
 cases b
 all_goals
  go_enter func296,ntmps296;go_wp2_with (go_at_call 237;refine (L5 _ _).mono ?_;rintro e w' ⟨rfl,o,rfl⟩)
  exact bodyPost_ret (v:=.agg #[.int .u8 1,.int .i64 (C9 _)]) (by simp [results,results296,go_sem,C9]) rfl ⟨rfl,_,_,rfl⟩
theorem uR {own:Own} {mb:Nat} {g:PgR} {R:McR} {fs:List FrR} {f:FrR} {w:World} (h:A4 w own mb g R) (hf:R.frs=fs++[f]) (va:Option Addr) (k vc:Nat) (hk:k<=f.stk.length) (pv:Value) (ps:List Val) (hp:dL w own pv ps)
  (hn:fs.length<=1000) (hs:f.stk.length<=1000) (hpl:ps.length<=100) (hpc:f.pc<=1000) :
  Calls prog 290 #[.pointer (some ⟨mb,0,none⟩),.slice va k vc,pv] w fun e w'=>C3 own mb g R fs f (f.pc+1) (f.stk.take (f.stk.length - k)++ps) (.int .i64 0) w e w':=by
 have HG:=hid (sR h hf k hk pv ps hp hn hs hpl hpc);clear h hf hp;go_enter func290,ntmps290;go_wp2_with (go_at_call 304;refine HG.out.mono ?_;rintro e w' ⟨xa,xb,rfl,hm,ht⟩)
 go_ret;exact⟨xa,xb,rfl,hm,ht⟩
section
variable {R:McR} {W w w':World} {f:FrR} {fs:List FrR} {g:PgR} {mb n sb:Nat} {o:Obj} {own:Own} {rest:List Val} {va:Option Addr} {x:Val}
structure C0 (w:World) (own:Own) (mb:Nat) (g:PgR) (R:McR) (fs:List FrR) (f:FrR) (rest args:List Val) (va:Option Addr) (sb:Nat):Prop where
 m:A4 w own mb g R
 hf:R.frs=fs++[f]
 hst:f.stk=rest++args
 hva:0 < args.length->va=some ⟨sb,rest.length*2,none⟩/\own sb=some (.stk fs.length)/\∀j x,args[j]?=some x->w.cell? ⟨sb,rest.length*2+j*2,none⟩=some (.int .u8 x.1)/\w.cell? ⟨sb,rest.length*2+j*2+1,none⟩=some (.int .i64 x.2)
 hn:fs.length<=1000
 hs:f.stk.length<=1000
 hpc:f.pc<=1000
theorem A4.same (h:A4 w own mb g R) (hs:w.heap.size<=w'.heap.size) (hb:∀k,k < w.heap.size->w'.heap[k]?=w.heap[k]?):A4 w' own mb g R:=by
 have xa:=hb mb (h.lt mb _ h.me);have keep:∀t k,own k=some t->w'.heap[k]?=w.heap[k]?/\own k=some t:=fun t k hk=>⟨hb k (h.lt k t hk),hk⟩
 refine⟨fun k t hk=>L0a (h.lt k t hk) hs,h.me,?_,?_,?_,?_,?_,?_,h.out.kept (keep _),h.called.kept (keep _),h.slots.kept (keep _),fun i f hf=>(h.loc i f hf).kept (keep _),fun i f hf=>(h.stk i f hf).kept (keep _),
  fun j o ho=>(h.fld j o ho).kept (keep _),h.pg.held hs fun k hk=>hb k (h.pg.blk_lt hk),h.ro,h.tab.held hs (hb 0 h.tab.1),h.ro0,?_,h.draws.kept (keep _)⟩
 ·rw [L0b (w:=w) (a:=⟨mb,0,none⟩) xa];exact h.c0
 ·rw [L0b (w:=w) (a:=⟨mb,1,none⟩) xa];exact h.c1
 ·rw [L0b (w:=w) (a:=⟨mb,2,none⟩) xa];exact h.c2
 ·rw [L0b (w:=w) (a:=⟨mb,3,none⟩) xa];exact h.c3
 ·rw [L0b (w:=w) (a:=⟨mb,4,none⟩) xa];exact h.c4
 ·intro j;rw [L0c (w:=w) (a:=⟨mb,j,none⟩) xa];exact h.fz j
 ·rw [L0b (w:=w) (a:=⟨mb,5,none⟩) xa];exact h.c5
theorem A4.new (h:A4 w own mb g R) {k:Nat} (hk:w.heap.size<=k):own k=none:=by
 cases e:own k with
 | none=>rfl
 | some t=>have:=h.lt k t e;omega
theorem A2.of_below (h:L0d w W):A2 own w own W:=⟨h.os,h.tape,h.output,h.size,fun k hk _=>h.block k hk,fun _ _=>rfl⟩
theorem C0.answer {args:List Val} (h:C0 w own mb g R fs f rest args va sb) (hB:L0d w W) (vc:Nat) (pv:Value) (ps:List Val) (hp:dL W own pv ps) (hpl:ps.length<=100) (k:Nat) (hk:args.length=k) :
  Calls prog 290 #[.pointer (some ⟨mb,0,none⟩),.slice va k vc,pv] W fun e w'=>C3 own mb g R fs f (f.pc+1) (rest++ps) (.int .i64 0) w e w':=by
 subst hk;have hm:=h.m.same hB.size fun k hk=>hB.block k hk
 have hl:args.length<=f.stk.length:=by rw [h.hst];simp
 refine (uR hm h.hf va args.length vc hl pv ps hp h.hn h.hs hpl h.hpc).mono ?_;rintro e w' ⟨xa,xc,rfl,xb,ht⟩;have he:f.stk.take (f.stk.length - args.length)=rest:=by rw [h.hst];simp
 rw[he] at xb;exact⟨xa,xc,rfl,xb,(A2.of_below hB).trans ht⟩
theorem B1 (h:w.heap.size=n):(w.alloc o).heap[n]?=some o:=by subst h;exact Go.Deep.blk_alloc_new w o
theorem J7 (h:w.heap.size=n):(w.alloc o).drew.heap[n]?=some o:=B1 h
theorem M3 {q:Nat} (h:w.heap.size=n):((w.alloc o).drewN q).heap[n]?=some o:=B1 h
theorem Below.drewQ {B:Nat} (h:Below B w w') (q:Nat):Below B w (w'.drewN q):=⟨h.os,h.tape,h.output,h.size,h.block⟩
theorem U8 (W:World) (own:Own):dL W own (.slice none 0 0) []:=L4a ⟨rfl,rfl⟩
theorem H3 (h:A4 w own mb g R) {pb:Nat} {a b:Int} {c:Nat} (hp:w.heap.size<=pb) (hW:W.heap[pb]?=some (.cells #[.int .u8 a,.int .i64 b] 92)):dL W own (.slice (some ⟨pb,0,none⟩) 1 c) [(a,b)]:=by
 refine L4b ⟨by simp,pb,c,rfl,h.new hp,(L2b.1 hW).1,fun j u hj=>?_⟩;have:=World.news_of_block hW j u;rw[W9] at this;exact this (by simpa [A5,O4] using hj)
theorem mG (h:A4 w own mb g R) {pb:Nat} {a b a' b':Int} {c:Nat} (hp:w.heap.size<=pb) (hW:W.heap[pb]?=some (.cells #[.int .u8 a,.int .i64 b,.int .u8 a',.int .i64 b'] 92)):dL W own (.slice (some ⟨pb,0,none⟩) 2 c) [(a,b),(a',b')]:=by
 refine L4b ⟨by simp,pb,c,rfl,h.new hp,(L2b.1 hW).1,fun j u hj=>?_⟩;have:=World.news_of_block hW j u;rw[W9] at this;exact this (by simpa [A5,O4] using hj)
theorem C0.one (h:C0 w own mb g R fs f rest [x] va sb) :
  ∃o,va=some ⟨sb,o,none⟩/\sb < w.heap.size/\w.cell? ⟨sb,o,none⟩=some (.int .u8 x.1)/\w.cell? ⟨sb,o+1,none⟩=some (.int .i64 x.2):=by
 obtain⟨h1,h2,h3⟩:=h.hva R5;obtain⟨h4,h5⟩:=h3 0 x rfl;exact⟨_,h1,h.m.lt sb _ h2,by simpa using h4,by simpa using h5⟩
theorem C0.two {y:Val} (h:C0 w own mb g R fs f rest [x,y] va sb) :
  ∃o,va=some ⟨sb,o,none⟩/\sb < w.heap.size/\w.cell? ⟨sb,o,none⟩=some (.int .u8 x.1)/\w.cell? ⟨sb,o+1,none⟩=some (.int .i64 x.2)/\w.cell? ⟨sb,o+2,none⟩=some (.int .u8 y.1)/\w.cell? ⟨sb,o+3,none⟩=some (.int .i64 y.2):=by
 obtain⟨h1,h2,h3⟩:=h.hva R5;obtain⟨h4,h5⟩:=h3 0 x rfl;obtain⟨h6,h7⟩:=h3 1 y rfl;exact⟨_,h1,h.m.lt sb _ h2,by simpa using h4,by simpa using h5,by simpa using h6,by simpa using h7⟩
theorem a0g (h:C0 w own mb g R fs f rest [] va sb) (a:Int) (vc:Nat) :
  Calls prog 256 #[.pointer (some ⟨mb,0,none⟩),.int .i64 a,.slice va 0 vc] w fun e w'=>C3 own mb g R fs f (f.pc+1) (rest++[(1,a)]) (.int .i64 0) w e w':=by
 have HH:=hid h;clear h;go_enter func256,ntmps256;go_wp2_with (go_at_call 237;refine (L5 _ _).mono ?_;rintro e w' ⟨rfl,o,rfl⟩)
 refine (HH.out.answer P7 vc _ [(1,a)] (H3 HH.out.m R4 (B1 R5)) R5 0 rfl).mono ?_;rintro e w' ⟨xa,xb,rfl,hm,ht⟩;go_wp2_with fail;go_ret;exact⟨xa,xb,rfl,hm,ht⟩
end
def J2 (W:World) (a:Option Addr) (l:List Int):Prop:=0 < l.length->∃b o,a=some ⟨b,o,none⟩/\b < W.heap.size/\∀(i:Nat) (x:Int),l[i]?=some x->W.cell? ⟨b,o+i,none⟩=some (.int .i64 x)
theorem J2.later {W U:World} {a:Option Addr} {l:List Int} (h:J2 W a l) (hB:L0d W U):J2 U a l:=fun h0=>by
 obtain⟨b,o,e,hb,hc⟩:=h h0;exact⟨b,o,e,L0a hb hB.size,fun i x hx=>(hB.cell (p:=⟨b,o+i,none⟩) hb).trans (hc i x hx)⟩
def D8:List Int->Int->Int->Int
 | [],_,_ => -1
 | x::l,n,v=>if x=v then n else D8 l (n+1) v
theorem cN:∀(l:List Int) (n v:Int),(∀x,x∈l->x≠v)->D8 l n v = -1
 | [],_,_,_=>rfl
 | x::l,n,v,h=>by rw [D8,if_neg (h x R5)];exact cN l _ v fun y hy=>h y (by simp [hy])
theorem mD:∀(l:List Int) (n v:Int) (i:Nat),l[i]?=some v->(∀(j:Nat) (x:Int),j < i->l[j]?=some x->x≠v)->D8 l n v=n+i
 | [],_,_,i,h,_=>by simp at h
 | x::l,n,v,0,h,_=>by
  have:x=v:=by simpa using h
  rw[D8,if_pos this];simp
 | x::l,n,v,i+1,h,hb=>by
  rw[D8,if_neg (hb 0 x R4 rfl),mD l (n+1) v i (by simpa using h) fun j y hj hy=>hb (j+1) y R4 (by simpa using hy)];omega
theorem eU {W:World} (a:Option Addr) (c:Nat) (l:List Int) (v:Int) (hl:J2 W a l) (hn:l.length<=4611686018427387904) :
  Calls prog 103 #[.slice a l.length c,.int .i64 v] W fun e w'=>e=.returned (.int .i64 (D8 l 0 v))/\w'=W:=by
 have HL:=hid hl;clear hl;go_enter func103,ntmps103;go_wp2_with fail;go_loopw [5] (fun vi wr=>∃i:Nat,i<=l.length/\vi=.int .i64 i/\(∀(j:Nat) (x:Int),j < i->l[j]?=some x->x≠v)/\W=wr) (fun vi _=>l.length - (intOf vi).toNat)
 case atStart=>exact ⟨0,L4c _,rfl,fun j x hj=>by omega,by first | rfl | trivial⟩
 case round =>
  obtain⟨i,hi,rfl,xc,rfl⟩:=hrel;have xa:=hid xc;clear xc;by_cases hlt:i < l.length
  ·obtain ⟨x,hx⟩:∃x,l[i]?=some x:=⟨_,L1b hlt⟩
   obtain⟨b,o,rfl,hb,xb⟩:=HL.out R4;have x0:=xb i x hx;have HX:=hid hx;clear xb hx;by_cases hxv:x=v
   ·subst hxv
    have HP:=hid (mD l 0 x i HX.out xa.out);go_wp2_with fail;go_ret;exact⟨by rw [HP.out];simp,by first | rfl | trivial⟩
   ·have xd:(x == v)=false:=L2c.2 hxv
    go_wp2_with fail;go_roundw
    case rel=>exact ⟨i+1,by omega,by go_num,fun j y hj hy=>by
     by_cases e:j=i
     ·subst e
      rw[HX.out] at hy
      cases hy;exact hxv
     ·exact xa.out j y R4 hy,by first | rfl | trivial⟩
    case measure=>simp [intOf];omega
  ·obtain rfl:i=l.length:=by omega
   have HP:Hid (D8 l 0 v = -1):=hid (cN l 0 v fun y hy=>by
    obtain⟨j,hj,e⟩:=List.mem_iff_getElem.1 hy;exact xa.out j y hj (by rw [<- e];exact L1b hj))
   go_wp2_with fail;go_ret;exact⟨by rw [HP.out];rfl,by first | rfl | trivial⟩
theorem bJ (z:Int) (W:World):Calls prog 215 #[.int .i64 z] W fun e w'=>e=.returned (.agg #[.int .u8 1,.int .i64 z])/\L0d W w':=by
 go_enter func215,ntmps215;go_wp2_with fail;refine bodyPost_ret (v:=.agg #[.int .u8 1,.int .i64 z]) (by simp [results,results215,go_sem]) rfl ?_;refine⟨rfl,?_⟩
 repeat (first | exact L3b _ _ | refine Below.setCell ?_ (by first | exact L1c _ | (simp;done)) _ | refine L3a ?_ Q2 _)
def yI (v:Val):Value:=.agg #[.int .u8 v.1,.int .i64 v.2]
def C2 (drop:Int) (push:List Val) (to trap:Int) (W:World) (e:Ending) (w':World):Prop :=
 ∃a c,e=.returned (.agg #[.int .i64 drop,.slice a push.length c,.int .i64 to,.int .i64 trap])/\L0d W w'/\w'.ownsRow W.heap.size 92 2 (.slice a push.length c) push.length (A5 push)
theorem B8 (W:World) (B:Nat):W.ownsRow B 92 2 (.slice none 0 0) 0 []:=⟨rfl,L4a ⟨rfl,rfl⟩⟩
theorem gH (b:Bool) (W:World):Calls prog 223 #[.bool b] W fun e w'=>e=.returned (yI (1,C9 b))/\L0d W w':=by
 have H:Hid (∀(z:Int) (U:World),Calls prog 215 #[.int .i64 z] U fun e w'=>e=.returned (.agg #[.int .u8 1,.int .i64 z])/\L0d U w'):=hid bJ
 cases b
 ·go_enter func223,ntmps223
  go_wp2_with fail;refine (H.out _ _).mono ?_;rintro e w1 ⟨rfl,xa⟩;have HB:=hid xa;have hs:W.heap.size < w1.heap.size:=L0a R5 xa.size;have c0:w1.cell? ⟨W.heap.size,0,none⟩=some (.int .u8 0):=(xa.cell (p:=⟨W.heap.size,0,none⟩) R5).trans Q9;have c1:w1.cell? ⟨W.heap.size,1,none⟩=some (.int .i64 0):=(xa.cell (p:=⟨W.heap.size,1,none⟩) R5).trans Q9
  have z0:w1.frozen? ⟨W.heap.size,0,none⟩=false:=(xa.frozen (p:=⟨W.heap.size,0,none⟩) R5).trans Q9;have z1:w1.frozen? ⟨W.heap.size,1,none⟩=false:=(xa.frozen (p:=⟨W.heap.size,1,none⟩) R5).trans Q9;clear xa;go_wp2_with fail;refine bodyPost_ret (v:=yI (1,C9 false)) (by simp [results,results223,go_sem,yI,C9,c0,c1]) rfl ?_;have hA:L0d W (W.alloc (.cells #[.int .u8 0,.int .i64 0] 92)):=L3a (L3b _ _) (L1c _) _
  exact⟨rfl,Below.setCell (Below.setCell (C5 HB.out hA hA.size) (L1c _) _) (L1c _) _⟩
 ·go_enter func223,ntmps223
  go_wp2_with fail;refine (H.out _ _).mono ?_;rintro e w1 ⟨rfl,xa⟩;have HB:=hid xa;have hs:W.heap.size < w1.heap.size:=L0a R5 xa.size;have c0:w1.cell? ⟨W.heap.size,0,none⟩=some (.int .u8 0):=(xa.cell (p:=⟨W.heap.size,0,none⟩) R5).trans Q9;have c1:w1.cell? ⟨W.heap.size,1,none⟩=some (.int .i64 0):=(xa.cell (p:=⟨W.heap.size,1,none⟩) R5).trans Q9
  have z0:w1.frozen? ⟨W.heap.size,0,none⟩=false:=(xa.frozen (p:=⟨W.heap.size,0,none⟩) R5).trans Q9;have z1:w1.frozen? ⟨W.heap.size,1,none⟩=false:=(xa.frozen (p:=⟨W.heap.size,1,none⟩) R5).trans Q9;clear xa;go_wp2_with fail;refine bodyPost_ret (v:=yI (1,C9 true)) (by simp [results,results223,go_sem,yI,C9,c0,c1]) rfl ?_;have hA:L0d W (W.alloc (.cells #[.int .u8 0,.int .i64 0] 92)):=L3a (L3b _ _) (L1c _) _
  exact⟨rfl,Below.setCell (Below.setCell (C5 HB.out hA hA.size) (L1c _) _) (L1c _) _⟩
theorem a1t (t:Int) (W:World):Calls prog 218 #[.int .i64 t] W fun e w'=>C2 0 [] 0 t W e w':=by
 go_enter func218,ntmps218;go_wp2_with fail;refine bodyPost_ret (v:=.agg #[.int .i64 0,.slice none 0 0,.int .i64 0,.int .i64 t]) (by simp [results,results218,go_sem]) rfl ?_;refine⟨none,0,rfl,?_,B8 _ _⟩
 repeat (first | exact L3b _ _ | refine Below.setCell ?_ (by first | exact L1c _ | (simp;done)) _ | refine L3a ?_ Q2 _)
theorem cG (pc drop:Nat) (v:Val) (W:World) (hpc:pc<=1000):Calls prog 220 #[.int .i64 (pc:Int),.int .i64 (drop:Int),.agg #[.int .u8 v.1,.int .i64 v.2]] W fun e w'=>C2 drop [v] ((pc:Int)+1) 0 W e w':=by
 go_enter func220,ntmps220;go_wp2_with fail;refine bodyPost_ret (v:=.agg #[.int .i64 (drop:Int),.slice (some ⟨W.heap.size+1+1,0,none⟩) 1 1,.int .i64 ((pc:Int)+1),.int .i64 0]) (by simp [results,results220,go_sem]) rfl ?_;refine⟨_,1,rfl,?_,rfl,L4b ⟨W.heap.size+1+1,1,#[.int .u8 v.1,.int .i64 v.2],rfl,by omega,?_,L1c _,by decide,rfl,rfl⟩⟩
 ·repeat (first | exact L3b _ _ | refine Below.setCell ?_ (by first | exact L1c _ | (simp;done)) _ | refine L3a ?_ Q2 _)
 ·exact B1 R5
section
variable {U w1:World}
theorem keep (hb:L0d U w1) {k i:Nat} {x:Value} (hp:k < U.heap.size) (hc:U.cell? ⟨k,i,none⟩=some x):w1.cell? ⟨k,i,none⟩=some x:=(hb.cell (p:=⟨k,i,none⟩) hp).trans hc
theorem B9 (hb:L0d U w1) {k i:Nat} (hp:k < U.heap.size) (hc:U.frozen? ⟨k,i,none⟩=false):w1.frozen? ⟨k,i,none⟩=false:=(hb.frozen (p:=⟨k,i,none⟩) hp).trans hc
theorem C2.stored {drop:Int} {push:List Val} {to trap:Int} {w W:World} {a:Option Addr} {c:Nat} {w':World} {k:Nat} (hB:L0d w W) (h1:L0d W w') (h2:w'.ownsRow W.heap.size 92 2 (.slice a push.length c) push.length (A5 push)) (hk:w.heap.size<=k) (hk2:k < W.heap.size) (v0 v1 v2 v3:Value) :
  C2 drop push to trap w (.returned (.agg #[.int .i64 drop,.slice a push.length c,.int .i64 to,.int .i64 trap])) ((((w'.setCell ⟨k,0,none⟩ v0).setCell ⟨k,1,none⟩ v1).setCell ⟨k,2,none⟩ v2).setCell ⟨k,3,none⟩ v3):=by
 refine⟨a,c,rfl,Below.setCell (Below.setCell (Below.setCell (Below.setCell (C5 h1 hB hB.size) hk _) hk _) hk _) hk _,h2.1,?_⟩;rcases h2.2 with h2 | ⟨g,cap,cur,q1,q2,q3,q4⟩
 ·exact L4a h2
 ·refine L4b ⟨g,cap,cur,q1,L5a hB.size q2,?_,q4⟩
  have xa:g≠k:=by omega
  rw[heap_setCell_other _ _ _ _ xa,heap_setCell_other _ _ _ _ xa,heap_setCell_other _ _ _ _ xa,heap_setCell_other _ _ _ _ xa];exact q3
theorem cO (op:Int) (pc:Nat) (x y:Val) (W:World) (h:¬(x.1=1/\y.1=1)):Calls prog 224 #[.int .i64 op,.int .i64 (pc:Int),.agg #[.int .u8 x.1,.int .i64 x.2],.agg #[.int .u8 y.1,.int .i64 y.2]] W fun e w'=>C2 0 [] 0 2 W e w':=by
 have HT:Hid (∀U:World,Calls prog 218 #[.int .i64 2] U fun e w'=>C2 0 [] 0 2 U e w'):=hid fun U=>a1t 2 U
 obtain⟨x1,x2⟩:=x;obtain⟨y1,y2⟩:=y;have h':¬(x1=1/\y1=1):=h;clear h;by_cases hx:x1=1
 ·subst hx
  have hy:¬y1=1:=fun e=>h' ⟨rfl,e⟩
  have xg:(y1 == 1)=false:=L2c.2 hy;clear h';go_enter func224,ntmps224;go_wp2_with fail;refine (HT.out _).mono ?_;rintro e w1 ⟨pa,xe,rfl,xa,xb⟩;have xc:=hid xa;have xd:=hid xb;have c0:w1.cell? ⟨W.heap.size+1+1,0,none⟩=some (.int .i64 0):=keep xa R5 Q9;have c1:w1.cell? ⟨W.heap.size+1+1,1,none⟩=some (.slice none 0 0):=keep xa R5 Q9;have c2:w1.cell? ⟨W.heap.size+1+1,2,none⟩=some (.int .i64 0):=keep xa R5 Q9
  have c3:w1.cell? ⟨W.heap.size+1+1,3,none⟩=some (.int .i64 0):=keep xa R5 Q9;have z0:w1.frozen? ⟨W.heap.size+1+1,0,none⟩=false:=B9 xa R5 Q9;have z1:w1.frozen? ⟨W.heap.size+1+1,1,none⟩=false:=B9 xa R5 Q9;have z2:w1.frozen? ⟨W.heap.size+1+1,2,none⟩=false:=B9 xa R5 Q9;have z3:w1.frozen? ⟨W.heap.size+1+1,3,none⟩=false:=B9 xa R5 Q9
  clear xa xb;go_wp2_with fail;refine bodyPost_ret (v:=.agg #[.int .i64 0,.slice pa 0 xe,.int .i64 0,.int .i64 2]) (by simp [results,results224,go_sem,c0,c1,c2,c3]) rfl ?_;exact C2.stored P8 xc.out xd.out R4 R5 _ _ _ _
 ·have xf:(x1 == 1)=false:=L2c.2 hx
  clear h';go_enter func224,ntmps224;go_wp2_with fail;refine (HT.out _).mono ?_;rintro e w1 ⟨pa,xe,rfl,xa,xb⟩;have xc:=hid xa;have xd:=hid xb;have c0:w1.cell? ⟨W.heap.size+1+1,0,none⟩=some (.int .i64 0):=keep xa R5 Q9;have c1:w1.cell? ⟨W.heap.size+1+1,1,none⟩=some (.slice none 0 0):=keep xa R5 Q9;have c2:w1.cell? ⟨W.heap.size+1+1,2,none⟩=some (.int .i64 0):=keep xa R5 Q9
  have c3:w1.cell? ⟨W.heap.size+1+1,3,none⟩=some (.int .i64 0):=keep xa R5 Q9;have z0:w1.frozen? ⟨W.heap.size+1+1,0,none⟩=false:=B9 xa R5 Q9;have z1:w1.frozen? ⟨W.heap.size+1+1,1,none⟩=false:=B9 xa R5 Q9;have z2:w1.frozen? ⟨W.heap.size+1+1,2,none⟩=false:=B9 xa R5 Q9;have z3:w1.frozen? ⟨W.heap.size+1+1,3,none⟩=false:=B9 xa R5 Q9
  clear xa xb;go_wp2_with fail;refine bodyPost_ret (v:=.agg #[.int .i64 0,.slice pa 0 xe,.int .i64 0,.int .i64 2]) (by simp [results,results224,go_sem,c0,c1,c2,c3]) rfl ?_;exact C2.stored P8 xc.out xd.out R4 R5 _ _ _ _
end
end Go.Proofs.YtbkmgoffiigdbaaGreatDoor
namespace Go.Proofs.YtbkmgoffiigdbaaGreatDoor
open Go.ChangeShapes Go.WideShapes Go.ChangeAt Go.RowKit Go.Proofs.Tryz
set_option maxHeartbeats 4000000
set_option maxRecDepth 100000
section
variable {W:World}
theorem a6Z : prog.globalNamed "slumber/slumber.operations" = some 0 := by kernel_rfl
theorem a7b:(prog.globals[0]?).map (·.type)=some 231:=by kernel_rfl
theorem uE:prog.cellsOf 230=5:=by kernel_rfl
theorem a5u:prog.cellsOf 3=1:=by kernel_rfl
theorem a3K:prog.cellsOf 225=1:=by kernel_rfl
theorem a3L:prog.cellsOf 226=1:=by kernel_rfl
theorem a1O:prog.cellsOf 228=1:=by kernel_rfl
theorem a3M:prog.cellsOf 231=140:=by kernel_rfl
def zI (k:Nat):List UInt8:=if N2 k=255 then [115,108,117,109,98,101,114,47,115,108,117,109,98,101,114,46,97,110,121,116,104,105,110,103] else if N2 k=257 then [115,108,117,109,98,101,114,47,115,108,117,109,98,101,114,46,110,111,116,104,105,110,103] else if N2 k=259 then [115,108,117,109,98,101,114,47,115,108,117,109,98,101,114,46,97,76,111,99,97,108] else if N2 k=270 then [115,108,117,109,98,101,114,47,115,108,117,109,98,101,114,46,97,110,73,110,115,116,114,117,99,116,105,111,110] else if N2 k=273 then [115,108,117,109,98,101,114,47,115,108,117,109,98,101,114,46,97,70,117,110,99,116,105,111,110] else if N2 k=276 then [115,108,117,109,98,101,114,47,115,108,117,109,98,101,114,46,97,82,101,99,111,114,100,83,105,122,101] else if N2 k=280 then [115,108,117,109,98,101,114,47,115,108,117,109,98,101,114,46,97,70,105,101,108,100] else []
def a6K:List (List UInt8):=[[115,108,117,109,98,101,114,47,115,108,117,109,98,101,114,46,100,111,73,110,116],[115,108,117,109,98,101,114,47,115,108,117,109,98,101,114,46,100,111,78,105,108],[115,108,117,109,98,101,114,47,115,108,117,109,98,101,114,46,100,111,76,111,97,100],[115,108,117,109,98,101,114,47,115,108,117,109,98,101,114,46,100,111,83,116,111,114,101],[115,108,117,109,98,101,114,47,115,108,117,109,98,101,114,46,100,111,68,117,112],[115,108,117,109,98,101,114,47,115,108,117,109,98,101,114,46,100,111,80,111,112],[115,108,117,109,98,101,114,47,115,108,117,109,98,101,114,46,100,111,83,119,97,112],[115,108,117,109,98,101,114,47,115,108,117,109,98,101,114,46,100,111,65,100,100],[115,108,117,109,98,101,114,47,115,108,117,109,98,101,114,46,100,111,83,117,98],[115,108,117,109,98,101,114,47,115,108,117,109,98,101,114,46,100,111,77,117,108],[115,108,117,109,98,101,114,47,115,108,117,109,98,101,114,46,100,111,76,101,115,115],[115,108,117,109,98,101,114,47,115,108,117,109,98,101,114,46,100,111,83,97,109,101],[115,108,117,109,98,101,114,47,115,108,117,109,98,101,114,46,100,111,74,117,109,112],[115,108,117,109,98,101,114,47,115,108,117,109,98,101,114,46,100,111,74,117,109,112,78,111,116],[115,108,117,109,98,101,114,47,115,108,117,109,98,101,114,46,100,111,67,97,108,108],[115,108,117,109,98,101,114,47,115,108,117,109,98,101,114,46,100,111,82,101,116,117,114,110],[115,108,117,109,98,101,114,47,115,108,117,109,98,101,114,46,100,111,82,101,99,111,114,100],[115,108,117,109,98,101,114,47,115,108,117,109,98,101,114,46,100,111,65,114,114,97,121],[115,108,117,109,98,101,114,47,115,108,117,109,98,101,114,46,100,111,87,101,97,107],[115,108,117,109,98,101,114,47,115,108,117,109,98,101,114,46,100,111,71,101,116],[115,108,117,109,98,101,114,47,115,108,117,109,98,101,114,46,100,111,80,117,116],[115,108,117,109,98,101,114,47,115,108,117,109,98,101,114,46,100,111,65,116],[115,108,117,109,98,101,114,47,115,108,117,109,98,101,114,46,100,111,83,101,116],[115,108,117,109,98,101,114,47,115,108,117,109,98,101,114,46,100,111,76,101,110],[115,108,117,109,98,101,114,47,115,108,117,109,98,101,114,46,100,111,83,116,114,111,110,103],[115,108,117,109,98,101,114,47,115,108,117,109,98,101,114,46,100,111,73,115,82,101,102],[115,108,117,109,98,101,114,47,115,108,117,109,98,101,114,46,100,111,80,114,105,110,116],[115,108,117,109,98,101,114,47,115,108,117,109,98,101,114,46,100,111,72,97,108,116]]
def doB (k:Nat):List UInt8:=a6K.getD k []
def a1m (k:Nat):DataW (List UInt8):=.agg [.lit (.int .i64 (qH k)),.lit (.int .i64 (M9 k)),.lit (.int .i64 (dE k)),.held (zI k),.held (doB k)]
def a5C:DataW Unit:=match (Rows.laid_slumber_slumber_operations:DataW Unit) with | .iface _ d=>d | d=>d
theorem a2K : (Rows.laid_slumber_slumber_operations : DataW Unit) = .iface "func table" a5C := by kernel_rfl
theorem a7a:a5C.funcsOut=.agg ((List.range 28).map a1m):=by kernel_rfl
theorem a0I:(List.range 28).all (fun k=>((List.range prog.funcs.size).filter fun f=>(prog.funcs[f]?).any (·.name.toUTF8.data.toList == zI k)) == [N2 k] && !(zI k).isEmpty)=true:=by kernel_rfl
theorem a2v:(List.range 28).all (fun k=>((List.range prog.funcs.size).filter fun f=>(prog.funcs[f]?).any (·.name.toUTF8.data.toList == doB k)) == [doT k] && !(doB k).isEmpty)=true:=by kernel_rfl
theorem a1n {m k:Nat} (hk:k < 28) {cs:List Value} {pl:List MemPlace} (h:DataW.trod (funcToken prog) prog W 0 (fun _=>true) true m 230 cs=some (a1m k,pl)) :
  cs=[.int .i64 (qH k),.int .i64 (M9 k),.int .i64 (dE k),.func (.func (N2 k)) #[] #[],.func (.func (doT k)) #[] #[]]:=by
 obtain⟨xs,n,_,hx,hl,xe,hf⟩:=DataW.trod_struct underlying230 h;rw[uE] at hl
 match cs,hl,xs,xe with
 | [u0,u1,u2,u3,u4],_,[y0,y1,y2,y3,y4],_ =>
  have h0:DataW.trod (funcToken prog) prog W 0 (fun _=>true) true n 3 ((([u0,u1,u2,u3,u4]:List Value).drop 0).take (prog.cellsOf 3))=some y0:=hf 0 _ rfl;have h1:DataW.trod (funcToken prog) prog W 0 (fun _=>true) true n 3 ((([u0,u1,u2,u3,u4]:List Value).drop 1).take (prog.cellsOf 3))=some y1:=hf 1 _ rfl;have h2:DataW.trod (funcToken prog) prog W 0 (fun _=>true) true n 225 ((([u0,u1,u2,u3,u4]:List Value).drop 2).take (prog.cellsOf 225))=some y2:=hf 2 _ rfl
  have h3:DataW.trod (funcToken prog) prog W 0 (fun _=>true) true n 226 ((([u0,u1,u2,u3,u4]:List Value).drop 3).take (prog.cellsOf 226))=some y3:=hf 3 _ rfl;have h4:DataW.trod (funcToken prog) prog W 0 (fun _=>true) true n 228 ((([u0,u1,u2,u3,u4]:List Value).drop 4).take (prog.cellsOf 228))=some y4:=hf 4 _ rfl;rw[a5u] at h0 h1;rw[a3K] at h2;rw[a3L] at h3;rw[a1O] at h4
  simp only[List.drop,List.take] at h0 h1 h2 h3 h4;simp only[a1m,List.map,Prod.mk.injEq,DataW.agg.injEq,List.cons.injEq,and_true] at hx;obtain⟨⟨x0,x1,x2,x3,x4⟩,_⟩:=hx;obtain⟨v0,e0,q0,_⟩:=DataW.trod_int underlying3 h0;obtain⟨v1,e1,q1,_⟩:=DataW.trod_int underlying3 h1;obtain⟨v2,e2,q2,_⟩:=DataW.trod_int underlying225 h2;rw[q0] at x0;rw[q1] at x1;rw[q2] at x2;simp only[DataW.lit.injEq,Lit.int.injEq,true_and] at x0 x1 x2
  simp only[List.cons.injEq,and_true] at e0 e1 e2;have xf:=List.all_eq_true.1 a0I k (List.mem_range.2 hk);simp only[Bool.and_eq_true,beq_iff_eq,Bool.not_eq_true'] at xf;obtain⟨xb,xg⟩:=xf;have xd:=List.all_eq_true.1 a2v k (List.mem_range.2 hk);simp only[Bool.and_eq_true,beq_iff_eq,Bool.not_eq_true'] at xd;obtain⟨xa,xc⟩:=xd;obtain⟨w3,p3⟩:=y3;obtain⟨w4,p4⟩:=y4;simp only at x3 x4
  subst x3 x4;generalize zI k=nb at xb xg h3;generalize doB k=db at xa xc h4
  cases nb with
  | nil=>cases xg
  | cons b r =>
   cases db with
   | nil=>cases xc
   | cons b' r' =>
    have:=func_of_trod (f0:=N2 k) underlying226 xb h3;have q4:=func_of_trod (f0:=doT k) underlying228 xa h4;rw[e0,e1,e2,this,q4,x0,x1,x2]
theorem uC (h : laidMetH prog [("slumber/slumber.operations", Rows.laid_slumber_slumber_operations)] W) : Tab W := by
 rw[a2K] at h;obtain⟨g,t,cs,xe,p,hg,ht,hv,hd⟩:=h.funcs (List.mem_singleton.2 rfl);obtain rfl:=L5b (a6Z.symm.trans hg);obtain rfl:=L5b (a7b.symm.trans ht);rw[a7a] at hd;obtain⟨xs,m,_,hx,hl,xd,hf⟩:=DataW.trod_array underlying231 hd;rw[a3M] at hl;rw[uE] at hf;have xb:∀k,k < 28->(cs.toList.drop (k*5)).take 5=[.int .i64 (qH k),.int .i64 (M9 k),.int .i64 (dE k),.func (.func (N2 k)) #[] #[],.func (.func (doT k)) #[] #[]]:=fun k hk=>by
  have h1:=hf k hk;have xf:xs[k]?=some (a1m k,(xs[k]' R4).2):=by
   have xc:(List.range 28).map a1m=xs.map (·.1):=by
    have:=(Prod.mk.inj hx).1;exact DataW.agg.inj this
   have h2:(xs.map (·.1))[k]?=some (a1m k):=by rw [<- xc];simp [hk]
   rw[List.getElem?_map,L1b R4] at h2;rw[L1b R4];simp only[Option.map_some,Option.some.injEq] at h2;rw[<- h2]
  rw[xf] at h1;exact a1n hk h1
 have xa:∀k j,k < 28->j < 5->W.cell? ⟨0,k*5+j,none⟩=((cs.toList.drop (k*5)).take 5)[j]?:=fun k j hk hj=>by
  rw[World.var?_cell hg hv (k*5+j),List.getElem?_take,if_pos hj,List.getElem?_drop];simp
 refine⟨?_,fun k hk=>?_⟩
 ·have:=xa 0 0 R4 R4
  rw[xb 0 R4] at this;exact World.block_lt_of_cell? _ _ this
 ·have c0:=xa k 0 hk R4
  have c1:=xa k 1 hk R4;have c2:=xa k 2 hk R4;have c3:=xa k 3 hk R4;have c4:=xa k 4 hk R4;rw[xb k hk] at c0 c1 c2 c3 c4;exact⟨c0,c1,c2,c3,c4⟩
end
end Go.Proofs.YtbkmgoffiigdbaaGreatDoor
