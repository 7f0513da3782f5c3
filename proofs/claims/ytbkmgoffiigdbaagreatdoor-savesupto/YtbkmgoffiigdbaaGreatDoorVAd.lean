import Derived.Test.YtbkmgoffiigdbaaGreatDoorVEc
namespace Go.Proofs.YtbkmgoffiigdbaaGreatDoor
open Go.RowKit Go.Sort Go.Proofs.Tryz
set_option maxHeartbeats 4000000
set_option maxRecDepth 100000
def K1 (W:World) (a:Option Addr) (l:List Int):Prop:=0 < l.length->∃b o,a=some ⟨b,o,none⟩/\b < W.heap.size/\∀(i:Nat) (x:Int),l[i]?=some x->W.cell? ⟨b,o+i,none⟩=some (J x)
theorem K1.later {W U:World} {a:Option Addr} {l:List Int} (h:K1 W a l) (hB:L0d W U):K1 U a l:=fun h0=>by
 obtain⟨b,o,e,hb,hc⟩:=h h0;exact⟨b,o,e,L0a hb hB.size,fun i x hx=>(hB.cell (p:=⟨b,o+i,none⟩) hb).trans (hc i x hx)⟩
def C4:List Int->Int->Int->Int
 | [],_,_ => -1
 | x::l,n,v=>if x=v then n else C4 l (n+1) v
theorem eV:∀(l:List Int) (n v:Int),(∀x,x∈l->x≠v)->C4 l n v = -1
 | [],_,_,_=>rfl
 | x::l,n,v,h=>by rw [C4,if_neg (h x R6)];exact eV l _ v fun y hy=>h y (by simp [hy])
theorem pG:∀(l:List Int) (n v:Int) (i:Nat),l[i]?=some v->(∀(j:Nat) (x:Int),j < i->l[j]?=some x->x≠v)->C4 l n v=n+i
 | [],_,_,i,h,_=>by simp at h
 | x::l,n,v,0,h,_=>by
  have:x=v:=by simpa using h
  rw[C4,if_pos this];simp
 | x::l,n,v,i+1,h,hb=>by
  rw[C4,if_neg (hb 0 x R5 rfl),pG l (n+1) v i (by simpa using h) fun j y hj hy=>hb (j+1) y R5 (by simpa using hy)];omega
theorem eH {W:World} (a:Option Addr) (c:Nat) (l:List Int) (v:Int) (hl:K1 W a l) (hn:l.length<=4611686018427387904) :
  Calls prog 103 #[.slice a l.length c,J v] W fun e w'=>e=.returned (J (C4 l 0 v))/\w'=W:=by
 have HL:=hid hl;clear hl;go_enter func103,ntmps103;go_wp2_with fail;go_loopw [5] (fun vi wr=>∃i:Nat,i<=l.length/\vi=J i/\(∀(j:Nat) (x:Int),j < i->l[j]?=some x->x≠v)/\W=wr) (fun vi _=>l.length - (intOf vi).toNat)
 case atStart=>exact ⟨0,L4c _,rfl,fun j x hj=>by omega,by first | rfl | trivial⟩
 case round =>
  obtain⟨i,hi,rfl,xc,rfl⟩:=hrel;have xa:=hid xc;clear xc;by_cases hlt:i < l.length
  ·obtain ⟨x,hx⟩:∃x,l[i]?=some x:=⟨_,L1b hlt⟩
   obtain⟨b,o,rfl,hb,xb⟩:=HL.out R5;have x0:=xb i x hx;have HX:=hid hx;clear xb hx;by_cases hxv:x=v
   ·subst hxv
    have HP:=hid (pG l 0 x i HX.out xa.out);go_wp2_with fail;go_ret;exact⟨by rw [HP.out];simp,by first | rfl | trivial⟩
   ·have xd:(x == v)=false:=L2c.2 hxv
    go_wp2_with fail;go_roundw
    case rel=>exact ⟨i+1,by omega,by go_num,fun j y hj hy=>by
     by_cases e:j=i
     ·subst e
      rw[HX.out] at hy
      cases hy;exact hxv
     ·exact xa.out j y R5 hy,by first | rfl | trivial⟩
    case measure=>simp [intOf];omega
  ·obtain rfl:i=l.length:=by omega
   have HP:Hid (C4 l 0 v = -1):=hid (eV l 0 v fun y hy=>by
    obtain⟨j,hj,e⟩:=List.mem_iff_getElem.1 hy;exact xa.out j y hj (by rw [<- e];exact L1b hj))
   go_wp2_with fail;go_ret;exact⟨by rw [HP.out];rfl,by first | rfl | trivial⟩
theorem mM (z:Int) (W:World):Calls prog 215 #[J z] W fun e w'=>e=.returned (.agg #[zC 1,J z])/\L0d W w':=by
 go_enter func215,ntmps215;go_wp2_with fail;refine bodyPost_ret (v:=.agg #[zC 1,J z]) (by simp [results,results215,go_sem]) rfl ?_;refine⟨rfl,?_⟩
 repeat (first | exact L3b _ _ | refine Below.setCell ?_ (by first | exact L1c _ | (simp;done)) _ | refine L3a ?_ Q2 _)
def a1i (v:Val):Value:=.agg #[zC v.1,J v.2]
def D2 (drop:Int) (push:List Val) (to trap:Int) (W:World) (e:Ending) (w':World):Prop :=
 ∃a c,e=.returned (.agg #[J drop,.slice a push.length c,J to,J trap])/\L0d W w'/\w'.ownsRow W.heap.size 92 2 (.slice a push.length c) push.length (A7 push)
theorem B8 (W:World) (B:Nat):W.ownsRow B 92 2 zD 0 []:=⟨rfl,L4a ⟨rfl,rfl⟩⟩
theorem jG (b:Bool) (W:World):Calls prog 223 #[.bool b] W fun e w'=>e=.returned (a1i (1,D6 b))/\L0d W w':=by
 have H:Hid (∀(z:Int) (U:World),Calls prog 215 #[J z] U fun e w'=>e=.returned (.agg #[zC 1,J z])/\L0d U w'):=hid mM
 cases b
 ·go_enter func223,ntmps223
  go_wp2_with fail;refine (H.out _ _).mono ?_;rintro e w1 ⟨rfl,xa⟩;have HB:=hid xa;have hs:W.heap.size < w1.heap.size:=L0a R6 xa.size;have c0:w1.cell? ⟨W.heap.size,0,none⟩=some (zC 0):=(xa.cell (p:=⟨W.heap.size,0,none⟩) R6).trans R3;have c1:w1.cell? ⟨W.heap.size,1,none⟩=some (J 0):=(xa.cell (p:=⟨W.heap.size,1,none⟩) R6).trans R3
  have z0:w1.frozen? ⟨W.heap.size,0,none⟩=false:=(xa.frozen (p:=⟨W.heap.size,0,none⟩) R6).trans R3;have z1:w1.frozen? ⟨W.heap.size,1,none⟩=false:=(xa.frozen (p:=⟨W.heap.size,1,none⟩) R6).trans R3;clear xa;go_wp2_with fail;refine bodyPost_ret (v:=a1i (1,D6 false)) (by simp [results,results223,go_sem,a1i,D6,c0,c1]) rfl ?_;have hA:L0d W (W.alloc (.cells #[zC 0,J 0] 92)):=L3a (L3b _ _) (L1c _) _
  exact⟨rfl,Below.setCell (Below.setCell (D7 HB.out hA hA.size) (L1c _) _) (L1c _) _⟩
 ·go_enter func223,ntmps223
  go_wp2_with fail;refine (H.out _ _).mono ?_;rintro e w1 ⟨rfl,xa⟩;have HB:=hid xa;have hs:W.heap.size < w1.heap.size:=L0a R6 xa.size;have c0:w1.cell? ⟨W.heap.size,0,none⟩=some (zC 0):=(xa.cell (p:=⟨W.heap.size,0,none⟩) R6).trans R3;have c1:w1.cell? ⟨W.heap.size,1,none⟩=some (J 0):=(xa.cell (p:=⟨W.heap.size,1,none⟩) R6).trans R3
  have z0:w1.frozen? ⟨W.heap.size,0,none⟩=false:=(xa.frozen (p:=⟨W.heap.size,0,none⟩) R6).trans R3;have z1:w1.frozen? ⟨W.heap.size,1,none⟩=false:=(xa.frozen (p:=⟨W.heap.size,1,none⟩) R6).trans R3;clear xa;go_wp2_with fail;refine bodyPost_ret (v:=a1i (1,D6 true)) (by simp [results,results223,go_sem,a1i,D6,c0,c1]) rfl ?_;have hA:L0d W (W.alloc (.cells #[zC 0,J 0] 92)):=L3a (L3b _ _) (L1c _) _
  exact⟨rfl,Below.setCell (Below.setCell (D7 HB.out hA hA.size) (L1c _) _) (L1c _) _⟩
theorem a3J (t:Int) (W:World):Calls prog 218 #[J t] W fun e w'=>D2 0 [] 0 t W e w':=by
 go_enter func218,ntmps218;go_wp2_with fail;refine bodyPost_ret (v:=.agg #[J 0,zD,J 0,J t]) (by simp [results,results218,go_sem]) rfl ?_;refine⟨none,0,rfl,?_,B8 _ _⟩
 repeat (first | exact L3b _ _ | refine Below.setCell ?_ (by first | exact L1c _ | (simp;done)) _ | refine L3a ?_ Q2 _)
theorem pT (pc drop:Nat) (v:Val) (W:World) (hpc:pc<=1000):Calls prog 220 #[J (pc:Int),J (drop:Int),.agg #[zC v.1,J v.2]] W fun e w'=>D2 drop [v] ((pc:Int)+1) 0 W e w':=by
 go_enter func220,ntmps220;go_wp2_with fail;refine bodyPost_ret (v:=.agg #[J (drop:Int),.slice (some ⟨W.heap.size+1+1,0,none⟩) 1 1,J ((pc:Int)+1),J 0]) (by simp [results,results220,go_sem]) rfl ?_;refine⟨_,1,rfl,?_,rfl,L4b ⟨W.heap.size+1+1,1,#[zC v.1,J v.2],rfl,by omega,?_,L1c _,by decide,rfl,rfl⟩⟩
 ·repeat (first | exact L3b _ _ | refine Below.setCell ?_ (by first | exact L1c _ | (simp;done)) _ | refine L3a ?_ Q2 _)
 ·exact B0 R6
section
variable {U w1:World}
theorem keep (hb:L0d U w1) {k i:Nat} {x:Value} (hp:k < U.heap.size) (hc:U.cell? ⟨k,i,none⟩=some x):w1.cell? ⟨k,i,none⟩=some x:=(hb.cell (p:=⟨k,i,none⟩) hp).trans hc
theorem E3 (hb:L0d U w1) {k i:Nat} (hp:k < U.heap.size) (hc:U.frozen? ⟨k,i,none⟩=false):w1.frozen? ⟨k,i,none⟩=false:=(hb.frozen (p:=⟨k,i,none⟩) hp).trans hc
theorem D2.stored {drop:Int} {push:List Val} {to trap:Int} {w W:World} {a:Option Addr} {c:Nat} {w':World} {k:Nat} (hB:L0d w W) (h1:L0d W w') (h2:w'.ownsRow W.heap.size 92 2 (.slice a push.length c) push.length (A7 push)) (hk:w.heap.size<=k) (hk2:k < W.heap.size) (v0 v1 v2 v3:Value) :
  D2 drop push to trap w (.returned (.agg #[J drop,.slice a push.length c,J to,J trap])) ((((w'.setCell ⟨k,0,none⟩ v0).setCell ⟨k,1,none⟩ v1).setCell ⟨k,2,none⟩ v2).setCell ⟨k,3,none⟩ v3):=by
 refine⟨a,c,rfl,Below.setCell (Below.setCell (Below.setCell (Below.setCell (D7 h1 hB hB.size) hk _) hk _) hk _) hk _,h2.1,?_⟩;rcases h2.2 with h2 | ⟨g,cap,cur,q1,q2,q3,q4⟩
 ·exact L4a h2
 ·refine L4b ⟨g,cap,cur,q1,L5a hB.size q2,?_,q4⟩
  have xa:g≠k:=by omega
  rw[heap_setCell_other _ _ _ _ xa,heap_setCell_other _ _ _ _ xa,heap_setCell_other _ _ _ _ xa,heap_setCell_other _ _ _ _ xa];exact q3
theorem a0E (op:Int) (pc:Nat) (x y:Val) (W:World) (h:¬(x.1=1/\y.1=1)):Calls prog 224 #[J op,J (pc:Int),.agg #[zC x.1,J x.2],.agg #[zC y.1,J y.2]] W fun e w'=>D2 0 [] 0 2 W e w':=by
 have HT:Hid (∀U:World,Calls prog 218 #[J 2] U fun e w'=>D2 0 [] 0 2 U e w'):=hid fun U=>a3J 2 U
 obtain⟨x1,x2⟩:=x;obtain⟨y1,y2⟩:=y;have h':¬(x1=1/\y1=1):=h;clear h;by_cases hx:x1=1
 ·subst hx
  have hy:¬y1=1:=fun e=>h' ⟨rfl,e⟩
  have xg:(y1 == 1)=false:=L2c.2 hy;clear h';go_enter func224,ntmps224;go_wp2_with fail;refine (HT.out _).mono ?_;rintro e w1 ⟨pa,xe,rfl,xa,xb⟩;have xd:=hid xa;have xc:=hid xb;have c0:w1.cell? ⟨W.heap.size+1+1,0,none⟩=some (J 0):=keep xa R6 R3;have c1:w1.cell? ⟨W.heap.size+1+1,1,none⟩=some zD:=keep xa R6 R3;have c2:w1.cell? ⟨W.heap.size+1+1,2,none⟩=some (J 0):=keep xa R6 R3
  have c3:w1.cell? ⟨W.heap.size+1+1,3,none⟩=some (J 0):=keep xa R6 R3;have z0:w1.frozen? ⟨W.heap.size+1+1,0,none⟩=false:=E3 xa R6 R3;have z1:w1.frozen? ⟨W.heap.size+1+1,1,none⟩=false:=E3 xa R6 R3;have z2:w1.frozen? ⟨W.heap.size+1+1,2,none⟩=false:=E3 xa R6 R3;have z3:w1.frozen? ⟨W.heap.size+1+1,3,none⟩=false:=E3 xa R6 R3
  clear xa xb;go_wp2_with fail;refine bodyPost_ret (v:=.agg #[J 0,.slice pa 0 xe,J 0,J 2]) (by simp [results,results224,go_sem,c0,c1,c2,c3]) rfl ?_;exact D2.stored P8 xd.out xc.out R5 R6 _ _ _ _
 ·have xf:(x1 == 1)=false:=L2c.2 hx
  clear h';go_enter func224,ntmps224;go_wp2_with fail;refine (HT.out _).mono ?_;rintro e w1 ⟨pa,xe,rfl,xa,xb⟩;have xd:=hid xa;have xc:=hid xb;have c0:w1.cell? ⟨W.heap.size+1+1,0,none⟩=some (J 0):=keep xa R6 R3;have c1:w1.cell? ⟨W.heap.size+1+1,1,none⟩=some zD:=keep xa R6 R3;have c2:w1.cell? ⟨W.heap.size+1+1,2,none⟩=some (J 0):=keep xa R6 R3
  have c3:w1.cell? ⟨W.heap.size+1+1,3,none⟩=some (J 0):=keep xa R6 R3;have z0:w1.frozen? ⟨W.heap.size+1+1,0,none⟩=false:=E3 xa R6 R3;have z1:w1.frozen? ⟨W.heap.size+1+1,1,none⟩=false:=E3 xa R6 R3;have z2:w1.frozen? ⟨W.heap.size+1+1,2,none⟩=false:=E3 xa R6 R3;have z3:w1.frozen? ⟨W.heap.size+1+1,3,none⟩=false:=E3 xa R6 R3
  clear xa xb;go_wp2_with fail;refine bodyPost_ret (v:=.agg #[J 0,.slice pa 0 xe,J 0,J 2]) (by simp [results,results224,go_sem,c0,c1,c2,c3]) rfl ?_;exact D2.stored P8 xd.out xc.out R5 R6 _ _ _ _
end
theorem a3o (pc:Nat) (hpc:pc<=1000) (x2 y2 op z:Int) (hz:op=7/\z=wrap64 (x2+y2)\/op=8/\z=wrap64 (x2 - y2)\/op=9/\z=wrap64 (x2*y2)\/op=10/\z=D6 (decide (x2 < y2))) (W:World):Calls prog 224 #[J op,J (pc:Int),.agg #[zC 1,J x2],.agg #[zC 1,J y2]] W fun e w'=>D2 2 [(1,z)] ((pc:Int)+1) 0 W e w':=by
 have HN:Hid (∀(z:Int) (U:World),Calls prog 215 #[J z] U fun e w'=>e=.returned (.agg #[zC 1,J z])/\L0d U w'):=hid mM;have HO:Hid (∀(z:Int) (U:World),Calls prog 220 #[J (pc:Int),J 2,.agg #[zC 1,J z]] U fun e w'=>D2 2 [(1,z)] ((pc:Int)+1) 0 U e w'):=hid fun z U=>pT pc 2 (1,z) U hpc
 have HT:Hid (∀(b:Bool) (U:World),Calls prog 223 #[.bool b] U fun e w'=>e=.returned (.agg #[zC 1,J (D6 b)])/\L0d U w'):=hid jG;rcases hz with ⟨rfl,rfl⟩ | ⟨rfl,rfl⟩ | ⟨rfl,rfl⟩ | ⟨rfl,rfl⟩
 all_goals
  go_enter func224,ntmps224;go_wp2_with fail
  first | refine (HN.out _ _).mono ?_ | refine (HT.out _ _).mono ?_
  rintro e w1 ⟨rfl,xa⟩;have xg:=hid xa;have xc:W.heap.size+1+1 < w1.heap.size:=L0a R6 xa.size;have c0:w1.cell? ⟨W.heap.size+1+1,0,none⟩=some (J 0):=keep xa R6 R3;have c1:w1.cell? ⟨W.heap.size+1+1,1,none⟩=some zD:=keep xa R6 R3;have c2:w1.cell? ⟨W.heap.size+1+1,2,none⟩=some (J 0):=keep xa R6 R3
  have c3:w1.cell? ⟨W.heap.size+1+1,3,none⟩=some (J 0):=keep xa R6 R3;have z0:w1.frozen? ⟨W.heap.size+1+1,0,none⟩=false:=E3 xa R6 R3;have z1:w1.frozen? ⟨W.heap.size+1+1,1,none⟩=false:=E3 xa R6 R3;have z2:w1.frozen? ⟨W.heap.size+1+1,2,none⟩=false:=E3 xa R6 R3;have z3:w1.frozen? ⟨W.heap.size+1+1,3,none⟩=false:=E3 xa R6 R3
  clear xa;go_wp2_with fail;refine (HO.out _ _).mono ?_;rintro e w2 ⟨pa,xh,rfl,xb,xd⟩;have xf:=hid xb;have xe:=hid xd;have d0:=keep xb xc c0;have d1:=keep xb xc c1;have d2:=keep xb xc c2;have d3:=keep xb xc c3;have y0:=E3 xb xc z0;have y1:=E3 xb xc z1;have xi:=E3 xb xc z2;have y3:=E3 xb xc z3;clear xb xd c0 c1 c2 c3 z0 z1 z2 z3;go_wp2_with fail;refine bodyPost_ret (v:=.agg #[J 2,.slice pa 1 xh,J ((pc:Int)+1),J 0]) (by simp [results,results224,go_sem,d0,d1,d2,d3]) rfl ?_
  exact D2.stored (W:=w1) (D7 xg.out P8 Q9) xf.out xe.out R5 xc _ _ _ _
structure ThR where
 kind:Int
 fv:Value
 fl:List Val
 slot:Int
def ThR.cells (o:ThR):List Value:=[zC o.kind,o.fv,J o.slot]
theorem ThR.cells_len (o:ThR):o.cells.length=3:=rfl
structure RfR where
 cap:Nat
 st:Int
 ov:Value
 out:List Int
 cv:Value
 frs:List FrR
 hv:Value
 ths:List ThR
 da:Option Addr
 dc:Nat
 dr:List Int
structure A9 (w:World) (own:Own) (mb:Nat) (g:PgR) (R:RfR):Prop where
 lt:∀k t,own k=some t->k < w.heap.size
 me:own mb=some .mach
 c0:w.cell? ⟨mb,0,none⟩=some (.slice g.a g.n g.c)
 c1:w.cell? ⟨mb,1,none⟩=some (J (R.cap:Int))
 c2:w.cell? ⟨mb,2,none⟩=some (J R.st)
 c3:w.cell? ⟨mb,3,none⟩=some R.ov
 c4:w.cell? ⟨mb,4,none⟩=some R.cv
 c5:w.cell? ⟨mb,5,none⟩=some R.hv
 c6:w.cell? ⟨mb,6,none⟩=some (.slice R.da R.dr.length R.dc)
 fz:∀j,w.frozen? ⟨mb,j,none⟩=false
 out:Row w own .out 3 1 R.ov R.out.length (R.out.map fun n=>J n)
 called:Row w own .called 86 4 R.cv R.frs.length (R.frs.flatMap FrR.cells)
 things:Row w own .slots 100 3 R.hv R.ths.length (R.ths.flatMap ThR.cells)
 loc:∀i f,R.frs[i]?=some f->Row w own (.loc i) 92 2 f.lv f.loc.length (A7 f.loc)
 stk:∀i f,R.frs[i]?=some f->Row w own (.stk i) 92 2 f.sv f.stk.length (A7 f.stk)
 fld:∀j o,R.ths[j]?=some o->Row w own (.fld j) 92 2 o.fv o.fl.length (A7 o.fl)
 pg:I9 w.heap.size w g
 ro:∀k,g.blk k->own k=none
 ro0:own 0=none
 dle:R.dr.length<=R.dc
 draws:K1 w R.da R.dr
 dro:∀b o,R.da=some ⟨b,o,none⟩->b < w.heap.size/\own b=none
theorem A9.same {w W:World} {own:Own} {mb:Nat} {g:PgR} {R:RfR} (h:A9 w own mb g R) (hB:L0d w W):A9 W own mb g R:=by
 have hm:=h.lt _ _ h.me;have hk:∀t k,own k=some t->W.heap[k]?=w.heap[k]?/\own k=some t:=fun t k e=>⟨hB.block k (h.lt k t e),e⟩
 exact⟨fun k t e=>L0a (h.lt k t e) hB.size,h.me,keep hB hm h.c0,keep hB hm h.c1,keep hB hm h.c2,keep hB hm h.c3,keep hB hm h.c4,keep hB hm h.c5,keep hB hm h.c6,fun j=>E3 hB hm (h.fz j),h.out.kept (hk _),h.called.kept (hk _),h.things.kept (hk _),fun i f e=>(h.loc i f e).kept (hk _),fun i f e=>(h.stk i f e).kept (hk _),fun i f e=>(h.fld i f e).kept (hk _),h.pg.held hB.size fun k hk=>hB.block k (h.pg.blk_lt hk),h.ro,h.ro0,h.dle,h.draws.later hB,fun b o e=>⟨L0a (h.dro b o e).1 hB.size,(h.dro b o e).2⟩⟩
theorem Row.cells {α:Type} {c:α->List Value} {sz:Nat} (hc:∀x,(c x).length=sz) {w:World} {own:Own} {t:Tag} {e:Nat} {v:Value} {l:List α} (h:Row w own t e sz v l.length (l.flatMap c)) :
  ∃a cp,v=.slice a l.length cp/\l.length<=cp/\(0 < l.length->∃b,a=some ⟨b,0,none⟩/\b < w.heap.size/\own b=some t/\(∀j,w.frozen? ⟨b,j,none⟩=false)/\∀(i j:Nat) (x:α) (u:Value),l[i]?=some x->j < sz->(c x)[j]?=some u->w.cell? ⟨b,i*sz+j,none⟩=some u):=by
 rcases h.1.2 with ⟨rfl,h0⟩ | ⟨g,xa,xc,rfl,_,hg,h3,h4,h5,h6⟩
 ·exact ⟨none,0,by rw [h0],by omega,fun hp=>by omega⟩
 ·refine ⟨_,xa,rfl,h3,fun _=>⟨g,rfl,(L2b.1 hg).1,h.2 g rfl,fun j=>by simp [World.frozen?,hg],fun i j x u hx hj hu=>?_⟩⟩
  have h7:=D3 hc hx hj;rw[hu,<- h6] at h7;have xb:i*sz+j < l.length*sz:=by
   have h8:=(L1a.1 hx).1;have:(i+1)*sz<=l.length*sz:=Nat.mul_le_mul_right _ h8;rw[Nat.succ_mul] at this;omega
  rw[List.getElem?_take,if_pos xb] at h7;simp only[World.cell?,hg];simpa using h7
section
variable {W:World} {mb:Nat} {sl:List Int}
def sI (W:World) (mb:Nat) (sl:List Int):Prop:=mb < W.heap.size/\∃a cp,W.cell? ⟨mb,5,none⟩=some (.slice a sl.length cp)/\(0 < sl.length->∃b,a=some ⟨b,0,none⟩/\b < W.heap.size/\∀(i:Nat) (x:Int),sl[i]?=some x->W.cell? ⟨b,i*3+2,none⟩=some (J x))
theorem A9.slotsIn {w:World} {own:Own} {g:PgR} {R:RfR} (h:A9 w own mb g R):sI w mb (R.ths.map ThR.slot):=by
 obtain⟨a,cp,hv,_,hc⟩:=Row.cells ThR.cells_len h.things;refine⟨h.lt _ _ h.me,a,cp,by rw [h.c5,hv,List.length_map],fun h0=>?_⟩;rw[List.length_map] at h0;obtain⟨b,rfl,hb,_,_,xa⟩:=hc h0;refine⟨b,rfl,hb,fun i x hx=>?_⟩;rw[List.getElem?_map] at hx
 cases e:R.ths[i]? with
 | none=>rw [e] at hx;cases hx
 | some o =>
  rw[e] at hx
  cases hx;exact xa i 2 o _ e R4 rfl
theorem a4A (v:Int) (hl:sI W mb sl) (hn:sl.length<=4611686018427387904) :
  Calls prog 52 #[zB mb,J v] W fun e w'=>e=.returned (J (C4 sl 0 v))/\w'=W:=by
 obtain⟨hm,a,cp,m5,hx⟩:=hl;have HL:=hid hx;clear hx;go_enter func52,ntmps52;go_wp2_with fail;go_loopw [5] (fun vi wr=>∃i:Nat,i<=sl.length/\vi=J i/\(∀(j:Nat) (x:Int),j < i->sl[j]?=some x->x≠v)/\W=wr) (fun vi _=>sl.length - (intOf vi).toNat)
 case atStart=>exact ⟨0,L4c _,rfl,fun j x hj=>by omega,by first | rfl | trivial⟩
 case round =>
  obtain⟨i,hi,rfl,xc,rfl⟩:=hrel;have xa:=hid xc;clear xc;by_cases hlt:i < sl.length
  ·obtain ⟨x,hx⟩:∃x,sl[i]?=some x:=⟨_,L1b hlt⟩
   obtain⟨b,rfl,hb,xb⟩:=HL.out R5;have x0:=xb i x hx;have HX:=hid hx;clear xb hx;by_cases hxv:x=v
   ·subst hxv
    have HP:=hid (pG sl 0 x i HX.out xa.out);go_wp2_with fail;go_ret;exact⟨by rw [HP.out];simp,by first | rfl | trivial⟩
   ·have xd:(x == v)=false:=L2c.2 hxv
    go_wp2_with fail;go_roundw
    case rel=>exact ⟨i+1,by omega,by go_num,fun j y hj hy=>by
     by_cases e:j=i
     ·subst e
      rw[HX.out] at hy
      cases hy;exact hxv
     ·exact xa.out j y R5 hy,by first | rfl | trivial⟩
    case measure=>simp [intOf];omega
  ·obtain rfl:i=sl.length:=by omega
   have HP:Hid (C4 sl 0 v = -1):=hid (eV sl 0 v fun y hy=>by
    obtain⟨j,hj,e⟩:=List.mem_iff_getElem.1 hy;exact xa.out j y hj (by rw [<- e];exact L1b hj))
   go_wp2_with fail;go_ret;exact⟨by rw [HP.out];rfl,by first | rfl | trivial⟩
theorem pH {l:List Int} {v:Int} : C4 l 0 v < 0↔¬v∈l:=by
 constructor
 ·intro h hm
  have:∀(l:List Int) (n:Int),0<=n->v∈l->0<=C4 l n v:=by
   intro l
   induction l with
   | nil=>intro n _ hm;cases hm
   | cons x l ih =>
    intro n hn hm;rw[C4];split
    ·exact hn
    ·rename_i hx
     rcases List.mem_cons.1 hm with e | hm
     ·exact absurd e.symm hx
     ·exact ih (n+1) R5 hm
  have:=this l 0 R5 hm;omega
 ·intro h
  rw[eV l 0 v fun x hx e=>h (e▸hx)]
  decide
def bO (sl:List Int):Nat->Nat->Int
 | 0,_ => -1
 | m+1,n=>if (n:Int)∈sl then bO sl m (n+1) else (n:Int)
theorem oL {cap:Nat} (hl:sI W mb sl) (hn:sl.length<=4611686018427387904) (hc:W.cell? ⟨mb,1,none⟩=some (J (cap:Int))) (hcap:cap<=1000) :
  Calls prog 88 #[zB mb] W fun e w'=>e=.returned (J (bO sl cap 0))/\w'=W:=by
 have HA:Hid (∀v:Int,Calls prog 52 #[zB mb,J v] W fun e w'=>e=.returned (J (C4 sl 0 v))/\w'=W):=hid fun v=>a4A v hl hn
 have hm:=hl.1;clear hl;go_enter func88,ntmps88;go_wp2_with fail;go_loopw [3] (fun vi wr=>∃i:Nat,i<=cap/\vi=J i/\bO sl cap 0=bO sl (cap - i) i/\W=wr) (fun vi _=>cap - (intOf vi).toNat)
 case atStart=>exact ⟨0,L4c _,rfl,rfl,by first | rfl | trivial⟩
 case round =>
  obtain⟨i,hi,rfl,xb,rfl⟩:=hrel;have HF:=hid xb;clear xb;by_cases hlt:i < cap
  ·have xc:(i:Int) < (cap:Int):=by omega
   have xa:=pH (l:=sl) (v:=(i:Int));have HS:Hid (bO sl (cap - i) i=if (i:Int)∈sl then bO sl (cap - (i+1)) (i+1) else (i:Int)):=hid (by
    rw[show cap - i=(cap - (i+1))+1 by omega];rfl)
   by_cases hin:(i:Int)∈sl
   ·have hq:¬C4 sl 0 (i:Int) < 0:=fun c=>xa.1 c hin
    clear xa;go_wp2_with (go_at_call 52;refine (HA.out _).mono ?_;rintro e w' ⟨rfl,hw⟩;rw [hw];clear hw w')
    exact⟨⟨i+1,by omega,by go_num,by rw [HF.out,HS.out,if_pos hin],by first | rfl | trivial⟩,by simp [intOf];omega⟩
   ·have hq:C4 sl 0 (i:Int) < 0:=xa.2 hin
    clear xa;go_wp2_with (go_at_call 52;refine (HA.out _).mono ?_;rintro e w' ⟨rfl,hw⟩;rw [hw];clear hw w')
    go_ret;exact⟨by rw [HF.out,HS.out,if_neg hin];rfl,by first | rfl | trivial⟩
  ·obtain rfl:i=cap:=by omega
   have HP:Hid (bO sl i 0 = -1):=hid (by rw [HF.out,Nat.sub_self];rfl);go_wp2_with fail;go_ret;exact⟨by rw [HP.out];rfl,by first | rfl | trivial⟩
end
section
variable {B:Nat} {W:World} {l:List Val} {met:List Nat} {v:Value}
def Y4 (l:List Nat):List Value:=l.map fun (n:Nat)=>Value.int .i64 (n:Int)
theorem a2X (l:List Nat) (j:Nat):Y4 (l++[j])=Y4 l++[J (j:Int)]:=by simp [Y4]
theorem a2R {i:Nat} {x:Val} (h:l[i]?=some x):C1 met (l.take (i+1))=if x.1=2/\x.2.toNat∉C1 met (l.take i) then C1 met (l.take i)++[x.2.toNat] else C1 met (l.take i):=by
 have e:l.take (i+1)=l.take i++[x]:=by rw [List.take_add_one,h];rfl
 rw[e,kM];rfl
def N7 (W:World) (B:Nat) (a:Option Addr) (l:List Val):Prop:=0 < l.length->∃b,a=some ⟨b,0,none⟩/\b < B/\∀(i:Nat) (x:Val),l[i]?=some x->W.cell? ⟨b,i*2,none⟩=some (zC x.1)/\W.cell? ⟨b,i*2+1,none⟩=some (J x.2)
theorem O8 {l:List Nat} (h:W.ownsRow B 3 1 v l.length (Y4 l)):∃a c,v=.slice a l.length c/\K1 W a (l.map fun n:Nat=>(n:Int)):=by
 rcases id h.2 with ⟨rfl,h0⟩ | ⟨g,xa,xb,rfl,_,hg,h3,h4,h5,h6⟩
 ·exact ⟨none,0,by rw [h0],fun hp=>by rw [List.length_map] at hp;omega⟩
 ·refine ⟨_,xa,rfl,fun _=>⟨g,0,rfl,(L2b.1 hg).1,fun i x hx=>?_⟩⟩
  rw[List.getElem?_map] at hx
  cases e:l[i]? with
  | none=>rw [e] at hx;cases hx
  | some n =>
   rw[e] at hx
   cases hx;have hi:=(L1a.1 e).1;have h7:(Y4 l)[i]?=some (J (n:Int)):=by unfold Y4;rw [List.getElem?_map,e];rfl
   rw[<- h6,List.getElem?_take,if_pos R5] at h7;rw[Nat.zero_add];simp only[World.cell?,hg];simpa using h7
theorem eI {l:List Nat} {j:Nat} : C4 (l.map fun n:Nat=>(n:Int)) 0 (j:Int) < 0↔j∉l:=by
 rw[pH];constructor
 ·intro h hm
  exact h (List.mem_map.2 ⟨j,hm,rfl⟩)
 ·intro h hm
  obtain⟨i,hi,e⟩:=List.mem_map.1 hm;have:i=j:=by omega
  exact h (this▸hi)
theorem a5t (l:List Val):∀met:List Nat,(C1 met l).length<=met.length+l.length:=by
 induction l with
 | nil=>intro met;simp [C1]
 | cons v l ih =>
  intro met;rw[C1];have:=ih (if v.1=2/\v.2.toNat∉met then met++[v.2.toNat] else met);have h2:(if v.1=2/\v.2.toNat∉met then met++[v.2.toNat] else met).length<=met.length+1:=by split <;> simp
  rw[List.length_cons];omega
theorem jX {w w':World} {e size n:Nat} {xs:List Value} (hB:Below B w W) (hBw:B<=w.heap.size) (ho:W.ownsRow B e size v n xs) (hg:W.grownBy w' v.ownBlock):Below B w w' :=
 ⟨hg.os.trans hB.os,hg.tape.trans hB.tape,hg.output.trans hB.output,L5a hB.size hg.size,fun k hk=>(hg.block k (L0a (L0a hk hBw) hB.size) (fun e=>by have:=(ho.lt k e.symm).1;omega)).trans (hB.block k hk)⟩
theorem a1J {a:Option Addr} {c:Nat} (hBW:B<=W.heap.size) (hrow:W.ownsRow B 3 1 v met.length (Y4 met)) (hs:N7 W B a l) (hr:∀u,u∈l->u.1=2->0<=u.2) (hn:met.length+l.length<=1000000000000) :
  Calls prog 127 #[v,.slice a l.length c] W fun e w'=>∃v',e=.returned v'/\w'.ownsRow B 3 1 v' (C1 met l).length (Y4 (C1 met l))/\Below B W w':=by
 obtain⟨i3,hi,hz,xj,xk⟩:=info_parts iE;have HI:=hid hi;have HZ:=hid hz;have xs:=hid xj;have xp:=hid xk;have HS:=hid hs;have HR:=hid hr;have xe:=hid hrow;obtain⟨va,vc,rfl,_⟩:=O8 hrow;clear hi hz xj xk hs hr hrow;go_enter func127,ntmps127;go_wp2_with fail;go_loopw [0,5] (fun vl vi wr=>∃i:Nat,i<=l.length/\vi=J i/\wr.ownsRow B 3 1 vl (C1 met (l.take i)).length (Y4 (C1 met (l.take i)))/\Below B W wr) (fun _ vi _=>l.length - (intOf vi).toNat)
 case atStart=>exact ⟨0,L4c _,rfl,xe.out,L3b _ _⟩
 case round =>
  obtain⟨i,hi,rfl,hrow,xa⟩:=hrel;have xt:=a5t (l.take i) met;rw[List.length_take] at xt;have xq:(C1 met (l.take i)).length<=1000000000000:=by omega
  obtain⟨la,lc,rfl,xb⟩:=O8 hrow;have xc:=hid hrow;have xd:=hid xa;by_cases hlti:i < l.length
  ·obtain ⟨x,hx⟩:∃x,l[i]?=some x:=⟨_,L1b hlti⟩
   obtain⟨sb,rfl,xl,xg⟩:=HS.out R5;obtain⟨x0,x1⟩:=xg i x hx;rw[<- xa.cell (p:=⟨sb,_,none⟩) xl] at x0 x1;have xv:sb < wr.heap.size:=L0a (L0a xl hBW) xa.size;have xh:=hid (a2R (met:=met) hx);have xn:B<=wr.heap.size:=L5a hBW xa.size;by_cases h2:x.1=2
   ·obtain ⟨j,hj⟩:=L5c (HR.out x (L2a hx) h2)
    rw[h2] at x0;rw[hj] at x1;have xi:x.2.toNat=j:=by rw [hj];rfl
    have xm:Hid (Calls prog 103 #[.slice la (C1 met (l.take i)).length lc,J (j:Int)] wr fun e w'=>e=.returned (J (C4 ((C1 met (l.take i)).map fun n:Nat=>(n:Int)) 0 (j:Int)))/\w'=wr):=hid (by
     have:=eH la lc ((C1 met (l.take i)).map fun n:Nat=>(n:Int)) (j:Int) xb (by rw [List.length_map];omega);rw[List.length_map] at this;exact this)
    have xf:=eI (l:=C1 met (l.take i)) (j:=j);by_cases hin:j∈C1 met (l.take i)
    ·have hq:¬C4 ((C1 met (l.take i)).map fun n:Nat=>(n:Int)) 0 (j:Int) < 0:=fun cc=>xf.1 cc hin
     clear hrow xa hx xg xb xf;go_wp2_with (go_at_call 103;refine xm.out.mono ?_;rintro e w' ⟨rfl,hw⟩;rw [hw];clear hw w')
     go_roundw
     case rel=>exact ⟨i+1,by omega,by go_num,by
      rw[xh.out,if_neg (fun e=>e.2 (by rw [xi];exact hin))];exact xc.out,xd.out⟩
     case measure=>simp [intOf];omega
    ·have hq:C4 ((C1 met (l.take i)).map fun n:Nat=>(n:Int)) 0 (j:Int) < 0:=xf.2 hin
     clear hrow xa hx xg xb xf;go_wp2_with (first | (go_at_call 103;refine xm.out.mono ?_;rintro e w' ⟨rfl,hw⟩;rw [hw];clear hw w') | (at_builtin;go_must (refine A8 _ rfl (.tmp 28) (.tmp 34) 24 rfl B 3 i3 _ 1 8 underlying24 HI.out HZ.out xs.out xp.out rfl R4 (.slice la (C1 met (l.take i)).length lc) (C1 met (l.take i)).length (Y4 (C1 met (l.take i))) rfl (xc.out.alloc _) (zA wr.heap.size) 1 1 [J (j:Int)] rfl rfl (fun _=>⟨_,rfl,World.news_of_block (cs:=#[J (j:Int)]) (t:=3) (fr:=(0,0)) (B0 R6)⟩) (by intro u hu;rw [List.mem_singleton] at hu;subst hu;rfl) Q7 R5 Q9 ?_)))
     intro v1 w1 hown1 hgrow1 _;have xr:=hid (jX (L3a xd.out xn _) hBW (xc.out.alloc _) hgrow1);have xo:=hid hown1;clear hown1 hgrow1 x0 x1 hq;go_wp2_with fail;go_roundw
     case rel=>exact ⟨i+1,by omega,by go_num,by
      rw[xh.out,if_pos ⟨h2,by rw [xi];exact hin⟩,xi,a2X,List.length_append];exact xo.out,xr.out⟩
     case measure=>simp [intOf];omega
   ·have xu:(x.1 == 2)=false:=L2c.2 h2
    clear hrow xa hx xg xb;go_wp2_with fail;go_roundw
    case rel=>exact ⟨i+1,by omega,by go_num,by
     rw[xh.out,if_neg (fun e=>h2 e.1)];exact xc.out,xd.out⟩
    case measure=>simp [intOf];omega
  ·obtain rfl:i=l.length:=by omega
   clear hrow xa xb;go_wp2_with fail;go_ret;exact⟨_,rfl,by have:=xc.out;rw [List.take_length] at this ⊢;exact this,xd.out⟩
end
end Go.Proofs.YtbkmgoffiigdbaaGreatDoor
