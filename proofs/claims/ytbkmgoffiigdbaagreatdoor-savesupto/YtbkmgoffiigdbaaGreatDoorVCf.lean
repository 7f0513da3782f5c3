import Derived.Test.YtbkmgoffiigdbaaGreatDoorVCe
import Derived.Test.YtbkmgoffiigdbaaGreatDoorVAg
namespace Go.Proofs.YtbkmgoffiigdbaaGreatDoor
open Go.RowKit Go.Sort Go.Proofs.Tryz
set_option maxHeartbeats 16000000
set_option maxRecDepth 100000
section
variable {U':World} {bs':List Int} {e:Ending} {v:Value} {α:Type}
theorem bN {α:Type} {l:List α} {f:α->List Int} {k:Nat} (h:∀x,x∈l->(f x).length<=k):(l.flatMap f).length<=l.length*k:=by
 induction l with
 | nil=>simp
 | cons x l ih =>
  have h1:=h x R6;have h2:=ih fun y hy=>h y (by simp [hy])
  rw[List.flatMap_cons,List.length_append,List.length_cons,Nat.add_mul];omega
theorem lX {β:Type} {l:List α} {i:Nat} {x:α} (f:α->List β) (h:l[i]?=some x):(l.take (i+1)).flatMap f=(l.take i).flatMap f++f x:=by
 rw[List.take_add_one,h,List.flatMap_append];simp
def V4 (W:World) (pb:Nat) (bs:List Int) (U:World):Prop:=∃v,T9 U W.heap.size pb v bs/\L0d W U
theorem V4.next {W U:World} {pb:Nat} {bs:List Int} (hp:T9 U W.heap.size pb v bs) (hB:L0d W U) (h:J1 W.heap.size pb v bs' U e U'):e=.returned (.tuple #[])/\V4 W pb bs' U':=by
 obtain⟨rfl,v',h1,h2⟩:=h;exact⟨rfl,v',h1,hB.trans (h2.toBelow hB.size hp.lo hp.low)⟩
section
variable {W:World} {pb:Nat} {bs:List Int} {U:World}
theorem V4.count (h:V4 W pb bs U) (n:Nat) (h63:n < 9223372036854775808) (hn:bs.length<=900000):Calls prog 84 #[zB pb,J (n:Int)] U fun e w'=>e=.returned (.tuple #[])/\V4 W pb (bs++B5 n) w':=by
 obtain⟨v,h1,h2⟩:=h;exact (T5 h1 h2.size n h63 R5).mono fun e w' q=>V4.next h1 h2 q
theorem V4.int (h:V4 W pb bs U) (z:Int) (hz:I64 z) (hn:bs.length<=900000):Calls prog 85 #[zB pb,J z] U fun e w'=>e=.returned (.tuple #[])/\V4 W pb (bs++Y0 z) w':=by
 obtain⟨v,h1,h2⟩:=h;exact (pF h1 h2.size z hz R5).mono fun e w' q=>V4.next h1 h2 q
theorem V4.program (h:V4 W pb bs U) (g:PgR) (hg:I9 W.heap.size W g) (hs:aM g) (hn:bs.length<=10000):Calls prog 83 #[zB pb,.agg #[.slice g.a g.n g.c]] U fun e w'=>e=.returned (.tuple #[])/\V4 W pb (bs++progB g) w':=by
 obtain⟨v,h1,h2⟩:=h;refine (tN h1 h2.size g ⟨hg.held h2.size fun k hk=>h2.block k (hg.blk_lt hk),fun k hk=>?_⟩ hs hn).mono fun e w' q=>V4.next h1 h2 q
 have:=hg.blk_lt hk;exact⟨by have:=h1.lo;omega,fun e=>by have:=h1.low k e;omega⟩
structure V5 (W:World) (pb:Nat) (oa:Option Addr) (ol:List Int) (bs:List Int) (U:World):Prop where
 ex:∃v,T9 U W.heap.size pb v bs/\L0d W U/\mB U pb v oa ol
variable {oa:Option Addr} {ol:List Int}
theorem V5.next (hp:T9 U W.heap.size pb v bs) (hB:L0d W U) (ho:mB U pb v oa ol) (h:J1 W.heap.size pb v bs' U e U'):e=.returned (.tuple #[])/\V5 W pb oa ol bs' U':=by
 obtain⟨rfl,v',h1,h2⟩:=h;exact⟨rfl,v',h1,hB.trans (h2.toBelow hB.size hp.lo hp.low),ho.later h2⟩
theorem V5.count (h:V5 W pb oa ol bs U) (n:Nat) (h63:n < 9223372036854775808) (hn:bs.length<=900000):Calls prog 84 #[zB pb,J (n:Int)] U fun e w'=>e=.returned (.tuple #[])/\V5 W pb oa ol (bs++B5 n) w':=by
 obtain⟨v,h1,h2,h3⟩:=h.ex;exact (T5 h1 h2.size n h63 R5).mono fun e w' q=>V5.next h1 h2 h3 q
theorem V5.values (h:V5 W pb oa ol bs U) (oc:Nat) (hol:ol.length<=100) (l:List Val) (la:Option Addr) (lc:Nat) (hl:N7 U W.heap.size la l) (hI:∀x,x∈l->I64 x.2) (hn:bs.length+l.length*11<=900000):Calls prog 87 #[zB pb,.slice la l.length lc,.slice oa ol.length oc] U fun e w'=>e=.returned (.tuple #[])/\V5 W pb oa ol (bs++l.flatMap (pvB ol)) w':=by
 obtain⟨v,h1,h2,h3⟩:=h.ex;exact (mL h1 h2.size l la lc (hl.pen h2.size h1) hI oa oc ol h3 R5 (fun x _=>cQ hol x.2) R5).mono fun e w' q=>V5.next h1 h2 h3 q
theorem V5.kept (h:V5 W pb oa ol bs U):L0d W U:=by
 obtain⟨v,_,h2,_⟩:=h.ex;exact h2
theorem V5.lt (h:V5 W pb oa ol bs U):pb < U.heap.size:=by
 obtain⟨v,h1,_⟩:=h.ex;exact h1.lt
end
end
section
variable {W:World} {ol:List Int}
theorem a7K (hol:ol.length<=100) {f:FrR} (h1:f.loc.length<=1000) (h2:f.stk.length<=1000) (h3:∀x,x∈f.loc->I64 x.2) (h4:∀x,x∈f.stk->I64 x.2) (h5:f.fn<=1000) (h6:f.pc<=1000):(pfB ol f).length<=22020:=by
 have q1:=bN (l:=f.loc) (f:=pvB ol) (k:=11) fun x hx=>gX (h3 x hx) (cQ hol x.2)
 have q2:=bN (l:=f.stk) (f:=pvB ol) (k:=11) fun x hx=>gX (h4 x hx) (cQ hol x.2)
 have q3:=B1 (n:=f.fn) R5;have q4:=B1 (n:=f.pc) R5;unfold pfB;simp only[List.length_append];omega
theorem a7M (hol:ol.length<=100) {o:ThR} (h0:0<=o.kind/\o.kind<=3) (h1:o.fl.length<=100) (h3:∀x,x∈o.fl->I64 x.2):(ptB ol o).length<=1120:=by
 have q1:=bN (l:=o.fl) (f:=pvB ol) (k:=11) fun x hx=>gX (h3 x hx) (cQ hol x.2)
 have q3:=B1 (n:=o.kind.toNat) R5;have q4:=B1 (n:=o.fl.length) R5;unfold ptB;simp only[List.length_append];split
 ·simp only [List.length_nil];omega
 ·omega
theorem a3f {B:Nat} {v:Value} {l:List Int} (h:W.ownsRow B 3 1 v l.length (l.map fun n=>Value.int .i64 n)):∃a c,v=.slice a l.length c/\l.length<=c/\K1 W a l/\∀b o,a=some ⟨b,o,none⟩->B<=b/\b < W.heap.size:=by
 rcases id h.2 with ⟨rfl,h0⟩ | ⟨g,xa,xb,rfl,hB,hg,h3,h4,h5,h6⟩
 ·exact ⟨none,0,by rw [h0],by omega,fun hp=>by omega,fun b o e=>by cases e⟩
 ·refine ⟨_,xa,rfl,h3,fun _=>⟨g,0,rfl,(L2b.1 hg).1,fun i x hx=>?_⟩,fun b o e=>by cases e;exact ⟨hB,(L2b.1 hg).1⟩⟩
  have hi:=(L1a.1 hx).1;have h7:(l.map fun n=>Value.int .i64 n)[i]?=some (J x):=by rw [List.getElem?_map,hx];rfl
  rw[<- h6,List.getElem?_take,if_pos R5] at h7;rw[Nat.zero_add];simp only[World.cell?,hg];simpa using h7
structure vC (W:World) (mb:Nat) (g:PgR) (R:RfR) (oa ca ta:Option Addr) (oc cc tc:Nat) (U:World):Prop where
 me:mb < U.heap.size
 c0:U.cell? ⟨mb,0,none⟩=some (.slice g.a g.n g.c)
 c2:U.cell? ⟨mb,2,none⟩=some (J R.st)
 c3:U.cell? ⟨mb,3,none⟩=some (.slice oa R.out.length oc)
 c4:U.cell? ⟨mb,4,none⟩=some (.slice ca R.frs.length cc)
 c5:U.cell? ⟨mb,5,none⟩=some (.slice ta R.ths.length tc)
 out:K1 U oa R.out
 frs:∀i f,R.frs[i]?=some f->∃cb la lc sa sc,ca=some ⟨cb,0,none⟩/\cb < U.heap.size/\U.cell? ⟨cb,i*4,none⟩=some (J (f.fn:Int))/\U.cell? ⟨cb,i*4+1,none⟩=some (J (f.pc:Int))/\U.cell? ⟨cb,i*4+2,none⟩=some (.slice la f.loc.length lc)/\U.cell? ⟨cb,i*4+3,none⟩=some (.slice sa f.stk.length sc)/\N7 U W.heap.size la f.loc/\N7 U W.heap.size sa f.stk
 ths:∀j o,R.ths[j]?=some o->∃tb fa fc,ta=some ⟨tb,0,none⟩/\tb < U.heap.size/\U.cell? ⟨tb,j*3,none⟩=some (zC o.kind)/\U.cell? ⟨tb,j*3+1,none⟩=some (.slice fa o.fl.length fc)/\U.cell? ⟨tb,j*3+2,none⟩=some (J o.slot)/\N7 U W.heap.size fa o.fl
theorem vC.of {own:Own} {mb:Nat} {g:PgR} {R:RfR} (h:A9 W own mb g R):∃oa ca ta oc cc tc,∀U,L0d W U->vC W mb g R oa ca ta oc cc tc U:=by
 obtain⟨oa,oc,xg,_,ho,_⟩:=a3f (l:=R.out) h.out.1;obtain⟨ca,cc,xi,_,hc⟩:=Row.cells FrR.cells_len h.called;obtain⟨ta,tc,xk,_,ht⟩:=Row.cells ThR.cells_len h.things;have xb:=h.lt _ _ h.me;have c3:=h.c3;have c4:=h.c4;have c5:=h.c5;rw[xg] at c3;rw[xi] at c4;rw[xk] at c5;refine⟨oa,ca,ta,oc,cc,tc,fun U hU=>⟨L0a xb hU.size,keep hU xb h.c0,keep hU xb h.c2,keep hU xb c3,keep hU xb c4,keep hU xb c5,ho.later hU,fun i f hf=>?_,fun j o hj=>?_⟩⟩
 ·have hi:=(L1a.1 hf).1
  obtain⟨cb,e,xc,_,_,xa⟩:=hc R5;obtain⟨la,lc,xf,_,xe⟩:=(h.loc i f hf).vals;obtain⟨sa,sc,xj,_,xh⟩:=(h.stk i f hf).vals;refine⟨cb,la,lc,sa,sc,e,L0a xc hU.size,keep hU xc (xa i 0 f _ hf R4 rfl),keep hU xc (xa i 1 f _ hf R4 rfl),?_,?_,xe.later hU,xh.later hU⟩
  ·rw [<- xf];exact keep hU xc (xa i 2 f _ hf R4 rfl)
  ·rw [<- xj];exact keep hU xc (xa i 3 f _ hf R4 rfl)
 ·have hi:=(L1a.1 hj).1
  obtain⟨tb,e,xd,_,_,xa⟩:=ht R5;obtain⟨fa,fc,xm,_,xl⟩:=(h.fld j o hj).vals;refine⟨tb,fa,fc,e,L0a xd hU.size,keep hU xd (xa j 0 o _ hj R4 rfl),?_,keep hU xd (xa j 2 o _ hj R4 rfl),xl.later hU⟩;rw[<- xm];exact keep hU xd (xa j 1 o _ hj R4 rfl)
end
section
variable {U U' W:World} {al:List Nat} {bs:List Int} {oa:Option Addr} {pb:Nat} {v:Value}
theorem V4.kept (h:V4 W pb bs U):L0d W U:=by
 obtain⟨v,_,h2⟩:=h;exact h2
theorem V4.start (W:World):V4 W (W.heap.size+1) [83,76,77,2] ((W.alloc (.cells #[zC 83,zC 76,zC 77,zC 2] 5)).alloc (.cells #[.bool false,.slice (zA W.heap.size) 4 4] 153)):=by
 have xa:=World.ownsRow_lit (base:=W.heap.size) (e:=5) (size:=1) W #[zC 83,zC 76,zC 77,zC 2] 4 (L1c _) Q7 rfl;refine⟨.slice (zA W.heap.size) 4 4,⟨by omega,by simp,by go_simp,by go_simp,fun j=>by go_simp,xa.alloc _,by simp [Value.ownBlock]⟩,L3a (L3a (L3b _ _) (L1c _) _) R6 _⟩
theorem V4.ol (h:V4 W pb bs U) (hB:L0d U U') (ho:U'.ownsRow U.heap.size 3 1 v al.length (Y4 al)):∃oa oc,v=.slice oa al.length oc/\V5 W pb oa (al.map fun n:Nat=>(n:Int)) bs U':=by
 obtain⟨u,h1,h2⟩:=h;obtain⟨oa,oc,rfl,hi⟩:=O8 ho;refine⟨oa,oc,rfl,u,h1.below hB,h2.trans (hB.mono h2.size),hi,fun b o e=>?_⟩;subst e;have xa:=ho.lt b (by
  rcases id ho.2 with ⟨q,_⟩ | ⟨_,_,_,q,_⟩
  ·cases q
  ·cases q;rfl)
 exact⟨xa.2,by have:=h1.lt;omega,fun e=>by have:=(h1.row.lt b e).2;omega⟩
theorem V5.bytes {ol:List Int} (h:V5 W pb oa ol bs U):∃a c,U.cell? ⟨pb,1,none⟩=some (.slice a bs.length c)/\M2 U a bs:=by
 obtain⟨v,h1,_,_⟩:=h.ex;have hc:=h1.c1;have hr:=h1.row;rcases id hr.2 with ⟨rfl,h0⟩ | ⟨g,xa,xb,rfl,_,hg,h3,_,_,h6⟩
 ·exact ⟨none,0,by rw [hc,h0],fun q=>by omega⟩
 ·refine ⟨_,_,hc,fun _=>⟨g,0,rfl,(hr.lt g rfl).2,fun i x hx=>?_⟩⟩
  have hi:=(L1a.1 hx).1;rw[Nat.zero_add,hr.cellAt i R5];unfold B7;rw[List.getElem?_map,hx];rfl
structure WrS (B mb:Nat) (ga:Option Addr) (gn gc st:Nat) (ot:List Int) (fs:List FrR) (ts:List ThR) (oa ca ta:Option Addr) (oc cc tc:Nat) (U:World):Prop where
 me:mb < U.heap.size
 c0:U.cell? ⟨mb,0,none⟩=some (.slice ga gn gc)
 c2:U.cell? ⟨mb,2,none⟩=some (J (st:Int))
 c3:U.cell? ⟨mb,3,none⟩=some (.slice oa ot.length oc)
 c4:U.cell? ⟨mb,4,none⟩=some (.slice ca fs.length cc)
 c5:U.cell? ⟨mb,5,none⟩=some (.slice ta ts.length tc)
 out:K1 U oa ot
 frs:∀i f,fs[i]?=some f->∃cb la lc sa sc,ca=some ⟨cb,0,none⟩/\cb < U.heap.size/\U.cell? ⟨cb,i*4,none⟩=some (J (f.fn:Int))/\U.cell? ⟨cb,i*4+1,none⟩=some (J (f.pc:Int))/\U.cell? ⟨cb,i*4+2,none⟩=some (.slice la f.loc.length lc)/\U.cell? ⟨cb,i*4+3,none⟩=some (.slice sa f.stk.length sc)/\N7 U B la f.loc/\N7 U B sa f.stk
 ths:∀j o,ts[j]?=some o->∃tb fa fc,ta=some ⟨tb,0,none⟩/\tb < U.heap.size/\U.cell? ⟨tb,j*3,none⟩=some (zC o.kind)/\U.cell? ⟨tb,j*3+1,none⟩=some (.slice fa o.fl.length fc)/\U.cell? ⟨tb,j*3+2,none⟩=some (J o.slot)/\N7 U B fa o.fl
theorem vC.letters {mb:Nat} {g:PgR} {R:RfR} {ca ta:Option Addr} {oc cc tc st:Nat} (h:vC W mb g R oa ca ta oc cc tc U) (hst:R.st=(st:Int)):WrS W.heap.size mb g.a g.n g.c st R.out R.frs R.ths oa ca ta oc cc tc U :=
 ⟨h.me,h.c0,by rw [<- hst];exact h.c2,h.c3,h.c4,h.c5,h.out,h.frs,h.ths⟩
def a1t (f:FrR):Prop:=f.fn<=1000/\f.pc<=1000/\f.loc.length<=1000/\f.stk.length<=1000/\(∀x,x∈f.loc->I64 x.2)/\∀x,x∈f.stk->I64 x.2
def a4x (o:ThR):Prop:=0<=o.kind/\o.kind<=3/\o.fl.length<=100/\∀x,x∈o.fl->I64 x.2
theorem a1t.len {ol:List Int} (hol:ol.length<=100) {f:FrR} (h:a1t f):(pfB ol f).length<=22020:=a7K hol h.2.2.1 h.2.2.2.1 h.2.2.2.2.1 h.2.2.2.2.2 h.1 h.2.1
theorem a4x.len {ol:List Int} (hol:ol.length<=100) {o:ThR} (h:a4x o):(ptB ol o).length<=1120:=a7M hol ⟨h.1,h.2.1⟩ h.2.2.1 h.2.2.2
theorem a5F (ol:List Int) (f:FrR) (cs:List Int):cs++B5 f.fn++B5 f.pc++f.loc.flatMap (pvB ol)++f.stk.flatMap (pvB ol)=cs++pfB ol f:=by unfold pfB;simp [List.append_assoc]
theorem a8T {ol:List Int} (hol:ol.length<=100) {fs:List FrR} (hf:∀f,f∈fs->a1t f) (hn:fs.length<=20) (h6:List Int) (hh:h6.length<=40000) (i:Nat):(h6++(fs.take i).flatMap (pfB ol)).length<=500000:=by
 have:=bN (l:=fs.take i) (f:=pfB ol) (k:=22020) fun y hy=>(hf y (List.mem_of_mem_take hy)).len hol
 have h9:(fs.take i).length*22020<=20*22020:=Nat.mul_le_mul_right _ (by rw [List.length_take];omega);rw[List.length_append];omega
theorem a9t {p:Nat->List Int} (hp:∀j,j∈al->(p j).length<=1120) (hn:al.length<=100) (h6:List Int) (hh:h6.length<=520000) (i:Nat):(h6++(al.take i).flatMap p).length<=640000:=by
 have:=bN (l:=al.take i) (f:=p) (k:=1120) fun y hy=>hp y (List.mem_of_mem_take hy)
 have h9:(al.take i).length*1120<=100*1120:=Nat.mul_le_mul_right _ (by rw [List.length_take];omega);rw[List.length_append];omega
theorem V5.num {ol:List Int} (h:V5 W pb oa ol bs U) {i:Nat} {x:Int} (hx:ol[i]?=some x):∃nb no,oa=some ⟨nb,no,none⟩/\nb < U.heap.size/\U.cell? ⟨nb,no+i,none⟩=some (J x):=by
 obtain⟨v,_,_,h3,_⟩:=h.ex;have hi:=(L1a.1 hx).1;obtain⟨nb,no,e,hl,hc⟩:=h3 R5;exact⟨nb,no,e,hl,hc i x hx⟩
structure fO (W:World) (pb:Nat) (oa:Option Addr) (ol bs:List Int) (b:Nat) (ob:Obj) (U:World):Prop where
 ex:∃v,T9 U W.heap.size pb v bs/\L0d W U/\mB U pb v oa ol/\b < U.heap.size/\b≠pb/\v.ownBlock≠some b/\U.heap[b]?=some ob
section
variable {W U:World} {pb b:Nat} {oa:Option Addr} {ol bs:List Int} {ob:Obj}
theorem V5.hold {V:World} (h:V5 W pb oa ol bs U) (hB:L0d U V) (hb:V.heap[U.heap.size]?=some ob):fO W pb oa ol bs U.heap.size ob V:=by
 obtain⟨v,h1,h2,h3⟩:=h.ex;have hl:=h1.lt;exact⟨v,h1.below hB,h2.trans (hB.mono h2.size),h3.later (Pw.below pb v hB),(L2b.1 hb).1,by omega,fun e=>by have:=(h1.row.lt _ e).2;omega,hb⟩
theorem fO.next {bs':List Int} {e:Ending} (hp:T9 U W.heap.size pb v bs) (hB:L0d W U) (ho:mB U pb v oa ol) (hb1:b < U.heap.size) (hb2:b≠pb) (hb3:v.ownBlock≠some b) (hb4:U.heap[b]?=some ob) (h:J1 W.heap.size pb v bs' U e U'):e=.returned (.tuple #[])/\fO W pb oa ol bs' b ob U':=by
 obtain⟨rfl,v',h1,h2⟩:=h;obtain⟨q1,q2,q3⟩:=h2.far hb1 hb2 hb3;exact⟨rfl,v',h1,hB.trans (h2.toBelow hB.size hp.lo hp.low),ho.later h2,q1,hb2,q2,q3.trans hb4⟩
theorem fO.count (h:fO W pb oa ol bs b ob U) (n:Nat) (h63:n < 9223372036854775808) (hn:bs.length<=900000):Calls Tryz.prog 84 #[zB pb,J (n:Int)] U fun e w'=>e=.returned (.tuple #[])/\fO W pb oa ol (bs++B5 n) b ob w':=by
 obtain⟨v,h1,h2,h3,h4,h5,h6,h7⟩:=h.ex;exact (T5 h1 h2.size n h63 R5).mono fun e w' q=>fO.next h1 h2 h3 h4 h5 h6 h7 q
theorem fO.values (h:fO W pb oa ol bs b ob U) (oc:Nat) (hol:ol.length<=100) (l:List Val) (la:Option Addr) (lc:Nat) (hl:N7 U W.heap.size la l) (hI:∀x,x∈l->I64 x.2) (hn:bs.length+l.length*11<=900000):Calls Tryz.prog 87 #[zB pb,.slice la l.length lc,.slice oa ol.length oc] U fun e w'=>e=.returned (.tuple #[])/\fO W pb oa ol (bs++l.flatMap (pvB ol)) b ob w':=by
 obtain⟨v,h1,h2,h3,h4,h5,h6,h7⟩:=h.ex;exact (mL h1 h2.size l la lc (hl.pen h2.size h1) hI oa oc ol h3 R5 (fun x _=>cQ hol x.2) R5).mono fun e w' q=>fO.next h1 h2 h3 h4 h5 h6 h7 q
theorem fO.toOl (h:fO W pb oa ol bs b ob U):V5 W pb oa ol bs U:=by
 obtain⟨v,h1,h2,h3,_⟩:=h.ex;exact⟨v,h1,h2,h3⟩
theorem fO.cells {cs:Array Value} {ty:Nat} (h:fO W pb oa ol bs b (.cells cs ty (0,0)) U):b < U.heap.size/\∀j,U.cell? ⟨b,j,none⟩=cs[j]?:=by
 obtain⟨v,_,_,_,h4,_,_,h7⟩:=h.ex;exact⟨h4,fun j=>by simp [World.cell?,h7]⟩
end
theorem a5J (ol:List Int) (o:ThR) (cs:List Int):cs++B5 o.kind.toNat++(if o.kind=3 then [] else B5 o.fl.length)++o.fl.flatMap (pvB ol)=cs++ptB ol o:=by unfold ptB;simp [List.append_assoc]
end
theorem uO {W:World} {mb gn gc st oc cc tc:Nat} {ga oa ca ta:Option Addr} {pB ot:List Int} {fs:List FrR} {ts:List ThR} {al:List Nat} {ol:List Int}
  (hsee:∀U,L0d W U->WrS W.heap.size mb ga gn gc st ot fs ts oa ca ta oc cc tc U)
  (hprog:∀pb U,V4 W pb [83,76,77,2] U->Calls prog 83 #[zB pb,.agg #[.slice ga gn gc]] U fun e w'=>e=.returned (.tuple #[])/\V4 W pb ([83,76,77,2]++pB) w')
  (hord:∀U,L0d W U->Calls prog 86 #[zB mb] U fun e w'=>∃v,e=.returned v/\w'.ownsRow U.heap.size 3 1 v al.length (Y4 al)/\L0d U w')
  (hol:ol=al.map fun n:Nat=>(n:Int)) (hal:al.length<=100) (hpB:pB.length<=10000) (hst:st<=1000) (hot:ot.length<=1000) (hoti:∀z,z∈ot->I64 z) (hfn:fs.length<=20) (hff:∀f,f∈fs->a1t f) (hlt:∀j,j∈al->∃o,ts[j]?=some o/\a4x o) (pt:Nat->List Int) (hpt:∀j,pt j=ptB ol (ts.getD j ⟨0,zD,[],0⟩)) :
  Calls prog 42 #[zB mb,.bool false] W fun e w'=>jU ([83,76,77,2]++pB++B5 st++B5 ot.length++ot.flatMap Y0++B5 fs.length++fs.flatMap (pfB ol)++B5 ol.length++al.flatMap pt) W e w':=by
 have xb:=hid hsee;have xw:=hid hord;have xe:ol.length=al.length:=by rw [hol,List.length_map]
 have yi:=hid hol;have xd:ol.length<=100:=by omega
 have xn:=hid hoti;have yj:=hid hff;have zy:=hid hlt;have yv:=hid hpt;have zw:Hid (∀j,j∈al->(pt j).length<=1120):=hid fun j hj=>by
  obtain⟨o,ho,hf⟩:=hlt j hj;rw[hpt,List.getD_eq_getElem?_getD,ho];exact hf.len xd
 have s0:=hsee W (L3b _ _);have qq:=s0.me;have zb:mb < W.heap.size+1:=by omega
 have c0:=s0.c0;have HV:=hid (hprog _ _ (V4.start W));clear hsee hord hol hoti hff hlt hprog s0 hpt;obtain⟨bz,xu⟩:∃bz,bz=[83,76,77,2]++pB++B5 st++B5 ot.length++ot.flatMap Y0++B5 fs.length++fs.flatMap (pfB ol)++B5 ol.length++al.flatMap pt:=⟨_,rfl⟩
 rw[<- xu];have ze:=hid xu;clear xu;go_enter func42,ntmps42;go_wp2_with (go_at_call 83;refine HV.out.mono ?_)
 rintro e w1 ⟨rfl,hp⟩;have s1:=xb.out w1 hp.kept;have zl:=s1.me;have c2:=s1.c2;have H1:=hid hp;generalize W.heap.size+1=pb at *
 have qi:([83,76,77,2]++pB).length<=10004:=by rw [List.length_append];simp only [List.length_cons,List.length_nil];omega
 generalize hb1:[83,76,77,2]++pB=b1 at *
 have qk:=hid hb1;clear hp s1 c0 HV hb1;go_wp2_with (go_at_call 84;refine (H1.out.count st R5 R5).mono ?_)
 rintro e w2 ⟨rfl,hp⟩;have s2:=xb.out w2 hp.kept;have zc:=s2.me;have c3:=s2.c3;have H2:=hid hp;have qp:(b1++B5 st).length<=10020:=by have:=B1 (n:=st) R5;rw [List.length_append];omega
 generalize hb2:b1++B5 st=b2 at *
 have vc:=hid hb2;clear hp s2 c2 zl H1 hb2;go_wp2_with (go_at_call 84;refine (H2.out.count ot.length R5 R5).mono ?_)
 rintro e w3 ⟨rfl,hp⟩;have H3:=hid hp;have qr:(b2++B5 ot.length).length<=10040:=by have:=B1 (n:=ot.length) R5;rw [List.length_append];omega
 generalize hb3:b2++B5 ot.length=b3 at *
 have qe:=hid hb3;clear hp c3 zc H2 hb3;go_wp2_with fail;go_loopw [6] (fun vi wr=>∃i:Nat,i<=ot.length/\vi=J i/\V4 W pb (b3++(ot.take i).flatMap Y0) wr) (fun vi _=>ot.length - (intOf vi).toNat)
 case atStart=>exact ⟨0,L4c _,rfl,by simpa using H3.out⟩
 case round =>
  obtain⟨i,hi,rfl,hp⟩:=hrel;have sw:=xb.out wr hp.kept;have xk:=sw.me;have c3:=sw.c3;have xf:(b3++(ot.take i).flatMap Y0).length<=20100:=by
   have:=bN (l:=ot.take i) (f:=Y0) (k:=10) fun y hy=>oP (xn.out y (List.mem_of_mem_take hy))
   rw[List.length_take,Nat.min_eq_left hi] at this;have h9:i*10<=1000*10:=Nat.mul_le_mul_right _ R5;rw[List.length_append];omega
  by_cases hlt:i < ot.length
  ·obtain ⟨x,hx⟩:∃x,ot[i]?=some x:=⟨_,L1b hlt⟩
   obtain⟨ob,oo,rfl,qt,ys⟩:=sw.out R5;have o1:=ys i x hx;have xh:=hid (lX Y0 hx);have HC:=hid (hp.int x (xn.out x (L2a hx)) R5);have xv:(i:Int) < (ot.length:Int):=by omega
   clear ys hx hp sw xf;go_wp2_with (go_at_call 85;refine HC.out.mono ?_;rintro e w4 ⟨rfl,hp⟩;have H4:=hid hp;clear hp)
   go_roundw
   case rel=>exact ⟨i+1,by omega,by go_num,by rw [xh.out,<- List.append_assoc];exact H4.out⟩
   case measure=>simp [intOf];omega
  ·obtain rfl:i=ot.length:=by omega
   have yk:¬(ot.length:Int) < (ot.length:Int):=by omega
   rw[List.take_length] at hp xf;have HD:=hid hp;generalize hb4:b3++ot.flatMap Y0=b4 at *
   have qz:=hid hb4;clear hp sw hb4;go_wp2_with (go_at_call 86;refine (xw.out _ HD.out.kept).mono ?_;rintro e w5 ⟨v5,rfl,yl,yq⟩;obtain ⟨yo,xj,rfl,xq⟩:=HD.out.ol yq yl;rw [<- yi.out] at xq;have s5:=xb.out w5 xq.kept;have yy:=s5.me;have c4:=s5.c4;have H5:=hid xq;clear yl yq xq s5 xk c3)
   refine (H5.out.count fs.length R5 R5).mono ?_;rintro e w6 ⟨rfl,hp⟩;have H6:=hid hp;have zh:(b4++B5 fs.length).length<=40000:=by have:=B1 (n:=fs.length) R5;rw [List.length_append];omega
   clear hp c4 yy HD xf H3 H5;go_wp2_with fail;generalize hh6:b4++B5 fs.length=b6 at *
   have ql:=hid hh6;clear hh6;go_loopw [8] (fun vi wr=>∃i:Nat,i<=fs.length/\vi=J i/\V5 W pb yo ol (b6++(fs.take i).flatMap (pfB ol)) wr) (fun vi _=>fs.length - (intOf vi).toNat)
   case atStart=>exact ⟨0,L4c _,rfl,by simpa using H6.out⟩
   case round =>
    obtain⟨i,hi,rfl,hp⟩:=hrel;have sw:=xb.out wr hp.kept;have xk:=sw.me;have c4:=sw.c4;have xf:=a8T xd yj.out hfn b6 zh i;by_cases hlt:i < fs.length
    ·obtain ⟨f,hf⟩:∃f,fs[i]?=some f:=⟨_,L1b hlt⟩
     obtain⟨cb,qw,qn,qm,qv,rfl,zs,f0,_⟩:=sw.frs i f hf;have xx:=yj.out f (L2a hf);have xh:=hid (lX (pfB ol) hf);have yd:Hid (∀U,L0d W U->mb < U.heap.size/\cb < U.heap.size/\U.cell? ⟨mb,4,none⟩=some (.slice (zA cb) fs.length cc)/\U.cell? ⟨cb,i*4+1,none⟩=some (J (f.pc:Int))/\∃la lc sa sc,U.cell? ⟨cb,i*4+2,none⟩=some (.slice la f.loc.length lc)/\U.cell? ⟨cb,i*4+3,none⟩=some (.slice sa f.stk.length sc)/\N7 U W.heap.size la f.loc/\N7 U W.heap.size sa f.stk):=hid fun U hU=>by
      have s:=xb.out U hU;obtain⟨va,la,lc,sa,sc,e,h1,_,h3,h4,h5,h7,h8⟩:=s.frs i f hf;simp only[Option.some.injEq,Addr.mk.injEq,and_true] at e;subst e;exact⟨s.me,h1,s.c4,h3,la,lc,sa,sc,h4,h5,h7,h8⟩
     have xv:(i:Int) < (fs.length:Int):=by omega
     have HE:Hid (∀cs:List Int,cs++B5 f.fn++B5 f.pc++f.loc.flatMap (pvB ol)++f.stk.flatMap (pvB ol)=cs++pfB ol f):=hid (a5F ol f);obtain⟨q1,q2,q3,q4,q5,q6⟩:=xx;have n1:=B1 (n:=f.fn) R5;have n2:=B1 (n:=f.pc) R5;have n3:=bN (l:=f.loc) (f:=pvB ol) (k:=11) fun x hx=>gX (q5 x hx) (cQ xd x.2)
     have Q5:=hid q5;have Q6:=hid q6;have yu:=hid hp;clear hp sw hf q5 q6 H6;generalize hcs:b6++(fs.take i).flatMap (pfB ol)=cs at *
     have xr:=hid hcs;generalize f.fn=ffn at *
     generalize f.pc=fpc at *
     generalize f.loc=floc at *
     generalize f.stk=fstk at *
     clear hcs;go_wp2_with fail;refine (yu.out.count ffn R5 R5).mono ?_;rintro e w7 ⟨rfl,hp⟩;obtain⟨m7,zu,zi,p7,_⟩:=yd.out w7 hp.kept;have H7:=hid hp;have qf:(cs++B5 ffn).length<=500010:=by rw [List.length_append];omega
     generalize hc7:cs++B5 ffn=cs7 at *
     have yw:=hid hc7;clear hp f0 c4 xk zs yu hc7;go_wp2_with fail;refine (H7.out.count fpc R5 R5).mono ?_;rintro e w8 ⟨rfl,hp⟩;obtain⟨m8,zx,za,_,xa,xc,ya,yc,l8,_,xo,_⟩:=yd.out w8 hp.kept;have H8:=hid hp;have zf:(cs7++B5 fpc).length<=500020:=by rw [List.length_append];omega
     generalize hc8:cs7++B5 fpc=cs8 at *
     have xs:=hid hc8;have yb:=H8.out.values xj xd floc xa xc xo Q5.out R5;rw[xe] at yb;have yg:=hid yb;clear yb;clear hp m7 zu zi p7 xo H7 hc8;go_wp2_with fail;refine yg.out.mono ?_;rintro e w9 ⟨rfl,hp⟩;obtain⟨m9,zn,zo,_,qb,qa,zd,zj,_,s9,_,xm⟩:=yd.out w9 hp.kept;have H9:=hid hp;have zg:(cs8++floc.flatMap (pvB ol)).length<=511020:=by rw [List.length_append];omega
     generalize hc9:cs8++floc.flatMap (pvB ol)=cs9 at *
     have xy:=hid hc9;have xg:=H9.out.values xj xd fstk zd zj xm Q6.out R5;rw[xe] at xg;have yt:=hid xg;clear xg;clear hp m8 zx za l8 xm H8 yg hc9;go_wp2_with fail;refine yt.out.mono ?_;rintro e wa ⟨rfl,hp⟩;have HA:=hid hp;clear hp m9 zn zo s9 H9 yt;go_wp2_with fail;go_roundw
     case rel=>exact ⟨i+1,by omega,by go_num,by rw [xh.out,<- List.append_assoc,xr.out,<- HE.out,yw.out,xs.out,xy.out];exact HA.out⟩
     case measure=>simp [intOf];omega
    ·obtain rfl:i=fs.length:=by omega
     have yk:¬(fs.length:Int) < (fs.length:Int):=by omega
     rw[List.take_length] at hp xf;have HF:=hid hp;generalize hb7:b6++fs.flatMap (pfB ol)=b7 at *
     have qs:=hid hb7;clear hp sw hb7 H6;go_wp2_with fail;refine (HF.out.count al.length R5 R5).mono ?_;rintro e w7 ⟨rfl,hp⟩;have HG:=hid hp;have zf:(b7++B5 al.length).length<=500020:=by have:=B1 (n:=al.length) R5;rw [List.length_append];omega
     clear hp c4 xk HF xf;go_wp2_with fail;generalize hb8:b7++B5 al.length=b8 at *
     have zt:=hid hb8;clear hb8;go_loopw [9] (fun vi wr=>∃i:Nat,i<=al.length/\vi=J i/\V5 W pb yo ol (b8++(al.take i).flatMap pt) wr) (fun vi _=>al.length - (intOf vi).toNat)
     case atStart=>exact ⟨0,L4c _,rfl,by simpa using HG.out⟩
     case round =>
      obtain⟨i,hi,rfl,hp⟩:=hrel;have xf:=a9t zw.out hal b8 R5 i;by_cases hlt:i < al.length
      ·obtain ⟨j,hj⟩:∃j,al[i]?=some j:=⟨_,L1b R5⟩
       obtain⟨o,ho,xx⟩:=zy.out j (L2a hj);have sw:=xb.out wr hp.kept;have xk:=sw.me;have c5:=sw.c5;obtain⟨tb,fa,fc,rfl,zp,t0,t1,t2,zk⟩:=sw.ths j o ho;have xh:=hid (lX pt hj);have yp:Hid (pt j=ptB ol o):=hid (by rw [yv.out,List.getD_eq_getElem?_getD,ho];rfl);have zz:=(L1a.1 ho).1;obtain⟨nb,no,rfl,zr,n0⟩:=hp.num (i:=i) (x:=(j:Int)) (by rw [yi.out,List.getElem?_map,hj];rfl)
       have qx:(i:Int) < (al.length:Int):=by omega
       have qd:(j:Int) < (ts.length:Int):=by omega
       obtain⟨k1,k2,k3,k4⟩:=xx;obtain⟨k,hk⟩:=L5c k1;have qo:k<=3:=by omega
       have HE:Hid (∀cs:List Int,cs++B5 k++(if k=3 then [] else B5 o.fl.length)++o.fl.flatMap (pvB ol)=cs++pt j):=hid fun cs=>by
        rw[yp.out,<- a5J,hk,Int.toNat_natCast];by_cases e3:k=3
        ·rw [if_pos e3,if_pos R5]
        ·rw [if_neg e3,if_neg R5]
       have n3:=bN (l:=o.fl) (f:=pvB ol) (k:=11) fun x hx=>gX (k4 x hx) (cQ xd x.2)
       have n4:=B1 (n:=k) R5;have n5:=B1 (n:=o.fl.length) R5;have yf:Hid (∀U,L0d W U->∃yn yr,yn=fa/\yr=fc/\N7 U W.heap.size fa o.fl):=hid fun U hU=>by
        obtain⟨qg,yn,yr,e,_,_,q1,_,q2⟩:=(xb.out U hU).ths j o ho;have e0:=(xb.out W (L3b _ _)).ths j o ho;obtain⟨qu,qj,qc,e0,xl,_,p1,_,_⟩:=e0
        cases e
        cases e0;have r1:=keep hU xl p1;rw[q1] at r1;have r2:=keep hp.kept xl p1;rw[t1] at r2;simp only[Option.some.injEq,Value.slice.injEq] at r1 r2;obtain⟨rfl,_,rfl⟩:=r1;obtain⟨rfl,_,rfl⟩:=r2;exact⟨_,_,rfl,rfl,q2⟩
       rw[hk] at t0;have K4:=hid k4;have HP:=hid hp;generalize hcs:b8++(al.take i).flatMap pt=cs at *
       have xr:=hid hcs;generalize o.fl=fl at *
       generalize o.slot=sl at *
       clear hp sw zk ho hj hcs k1 k2 hk k4 yp;go_wp2_with fail;go_region
       all_goals
        generalize hqV:(wr.alloc (Obj.cells #[zC (k:Int),.slice fa fl.length fc,J sl] 100)).drew=V at *
        have ym:L0d wr V:=by subst hqV;exact L3c (L3a (L3b _ _) (L1c _) _)
        have ye:V.heap[wr.heap.size]?=some (.cells #[zC (k:Int),.slice fa fl.length fc,J sl] 100 (0,0)):=by subst hqV;exact heap_alloc_new wr _
        have xz:=hid (HP.out.hold ym ye);clear ym ye hqV HP t0 t1 t2 n0 c5 xk zp zr;obtain⟨bl,bc⟩:=xz.out.cells;generalize wr.heap.size=vb at *
        have v0:V.cell? ⟨vb,0,none⟩=some (zC (k:Int)):=bc 0;clear bc;go_wp2_with fail;refine (xz.out.count k R5 R5).mono ?_;rintro e w8 ⟨rfl,hp⟩;have xi:=hid hp;obtain⟨yz,bc⟩:=xi.out.cells;have v0:w8.cell? ⟨vb,0,none⟩=some (zC (k:Int)):=bc 0;have v1:w8.cell? ⟨vb,1,none⟩=some (.slice fa fl.length fc):=bc 1;have zg:(cs++B5 k).length<=640010:=by rw [List.length_append];omega
        clear hp bc xz bl;by_cases e3:k=3
        ·subst e3
         have HC:Hid (Calls prog 87 #[zB pb,.slice fa fl.length fc,.slice (some ⟨nb,no,none⟩) al.length xj] w8 fun e w'=>e=.returned (.tuple #[])/\fO W pb (some ⟨nb,no,none⟩) ol (cs++B5 3++fl.flatMap (pvB ol)) vb _ w'):=hid (by rw [<- xe];exact xi.out.values xj xd fl fa fc (by obtain ⟨_,_,_,_,q⟩:=yf.out w8 xi.out.toOl.kept;exact q) K4.out R5);have xt:Hid (cs++B5 3++fl.flatMap (pvB ol)=cs++pt j):=hid (by have:=HE.out cs;rw [if_pos rfl,List.append_nil] at this;exact this)
         clear xi;go_wp2_with fail;refine HC.out.mono ?_;rintro e w9 ⟨rfl,hp⟩;have HA:=hid hp.toOl;clear hp HC v0 v1;go_wp2_with fail;go_roundw
         case rel=>exact ⟨i+1,by omega,by go_num,by rw [xh.out,<- List.append_assoc,xr.out,<- xt.out];exact HA.out⟩
         case measure=>simp [intOf];omega
        ·have qy:((k:Int) == 3)=false:=L2c.2 R5
         have zq:¬(k:Int)=3:=by omega
         go_wp2_with fail;refine (xi.out.count fl.length R5 R5).mono ?_;rintro e w9 ⟨rfl,hp⟩;have xp:=hid hp;obtain⟨zm,bc⟩:=xp.out.cells;have u1:w9.cell? ⟨vb,1,none⟩=some (.slice fa fl.length fc):=bc 1;have zv:(cs++B5 k++B5 fl.length).length<=640020:=by rw [List.length_append];omega
         have HC:Hid (Calls prog 87 #[zB pb,.slice fa fl.length fc,.slice (some ⟨nb,no,none⟩) al.length xj] w9 fun e w'=>e=.returned (.tuple #[])/\fO W pb (some ⟨nb,no,none⟩) ol (cs++B5 k++B5 fl.length++fl.flatMap (pvB ol)) vb _ w'):=hid (by rw [<- xe];exact xp.out.values xj xd fl fa fc (by obtain ⟨_,_,_,_,q⟩:=yf.out w9 xp.out.toOl.kept;exact q) K4.out R5);have xt:Hid (cs++B5 k++B5 fl.length++fl.flatMap (pvB ol)=cs++pt j):=hid (by have:=HE.out cs;rw [if_neg e3] at this;exact this)
         clear hp bc xi xp v0 v1 yz;go_wp2_with fail;refine HC.out.mono ?_;rintro e wa ⟨rfl,hp⟩;have HA:=hid hp.toOl;clear hp HC u1 zm;go_wp2_with fail;go_roundw
         case rel=>exact ⟨i+1,by omega,by go_num,by rw [xh.out,<- List.append_assoc,xr.out,<- xt.out];exact HA.out⟩
         case measure=>simp [intOf];omega
      ·obtain rfl:i=al.length:=by omega
       have yk:¬(al.length:Int) < (al.length:Int):=by omega
       rw[List.take_length] at hp xf;have yx:Hid (bz=b8++al.flatMap pt):=hid (by rw [ze.out,xe,zt.out]);rw[<- yx.out] at hp xf;obtain⟨ba,bc,q1,q2⟩:=hp.bytes;have qh:=hp.lt;have HS:=hid (xN ba bc _ q2 R5);have HK:=hid hp.kept;clear hp q2 HG;go_wp2_with fail;refine HS.out.mono ?_;rintro e w9 ⟨v9,rfl,xg,yh⟩;obtain⟨a9,c9,rfl,_⟩:=C2 xg;have HP:Hid (jU bz W (.returned (.slice a9 (bz++fD bz).length c9)) w9):=hid ⟨_,rfl,eE xg HK.out.size,HK.out.trans (yh.mono HK.out.size)⟩
       clear xg yh HS;generalize (bz++fD bz).length=n9 at HP ⊢;go_wp2_with fail;go_ret;exact HP.out
end Go.Proofs.YtbkmgoffiigdbaaGreatDoor
