import Derived.Test.YtbkmgoffiigdbaaGreatDoorWEi
namespace Go.Proofs.YtbkmgoffiigdbaaGreatDoor
open Go.RowKit Go.Sort Go.Proofs.Tryz
set_option maxHeartbeats 4000000
set_option maxRecDepth 100000
theorem xB (pc:Nat) (hpc:pc<=1000) (x2 y2:Int) (W:World):Calls prog 224 #[.int .i64 7,.int .i64 (pc:Int),.agg #[.int .u8 1,.int .i64 x2],.agg #[.int .u8 1,.int .i64 y2]] W fun e w'=>C2 2 [(1,wrap64 (x2+y2))] ((pc:Int)+1) 0 W e w':=by
 have HN:Hid (∀(z:Int) (U:World),Calls prog 215 #[.int .i64 z] U fun e w'=>e=.returned (.agg #[.int .u8 1,.int .i64 z])/\L0d U w'):=hid bJ;have HO:Hid (∀(z:Int) (U:World),Calls prog 220 #[.int .i64 (pc:Int),.int .i64 2,.agg #[.int .u8 1,.int .i64 z]] U fun e w'=>C2 2 [(1,z)] ((pc:Int)+1) 0 U e w'):=hid fun z U=>cG pc 2 (1,z) U hpc
 go_enter func224,ntmps224;go_wp2_with fail;refine (HN.out _ _).mono ?_;rintro e w1 ⟨rfl,xa⟩;have xf:=hid xa;have xc:W.heap.size+1+1 < w1.heap.size:=L0a R5 xa.size;have c0:w1.cell? ⟨W.heap.size+1+1,0,none⟩=some (.int .i64 0):=keep xa R5 Q9;have c1:w1.cell? ⟨W.heap.size+1+1,1,none⟩=some (.slice none 0 0):=keep xa R5 Q9;have c2:w1.cell? ⟨W.heap.size+1+1,2,none⟩=some (.int .i64 0):=keep xa R5 Q9
 have c3:w1.cell? ⟨W.heap.size+1+1,3,none⟩=some (.int .i64 0):=keep xa R5 Q9;have z0:w1.frozen? ⟨W.heap.size+1+1,0,none⟩=false:=B9 xa R5 Q9;have z1:w1.frozen? ⟨W.heap.size+1+1,1,none⟩=false:=B9 xa R5 Q9;have z2:w1.frozen? ⟨W.heap.size+1+1,2,none⟩=false:=B9 xa R5 Q9;have z3:w1.frozen? ⟨W.heap.size+1+1,3,none⟩=false:=B9 xa R5 Q9
 clear xa;go_wp2_with fail;refine (HO.out _ _).mono ?_;rintro e w2 ⟨pa,xe,rfl,xb,xd⟩;have xh:=hid xb;have xg:=hid xd;have d0:=keep xb xc c0;have d1:=keep xb xc c1;have d2:=keep xb xc c2;have d3:=keep xb xc c3;have y0:=B9 xb xc z0;have y1:=B9 xb xc z1;have xi:=B9 xb xc z2;have y3:=B9 xb xc z3;clear xb xd c0 c1 c2 c3 z0 z1 z2 z3;go_wp2_with fail;refine bodyPost_ret (v:=.agg #[.int .i64 2,.slice pa 1 xe,.int .i64 ((pc:Int)+1),.int .i64 0]) (by simp [results,results224,go_sem,d0,d1,d2,d3]) rfl ?_
 exact C2.stored (W:=w1) (C5 xf.out P8 Q8) xh.out xg.out R4 xc _ _ _ _
theorem xD (pc:Nat) (hpc:pc<=1000) (x2 y2:Int) (W:World):Calls prog 224 #[.int .i64 8,.int .i64 (pc:Int),.agg #[.int .u8 1,.int .i64 x2],.agg #[.int .u8 1,.int .i64 y2]] W fun e w'=>C2 2 [(1,wrap64 (x2 - y2))] ((pc:Int)+1) 0 W e w':=by
 have HN:Hid (∀(z:Int) (U:World),Calls prog 215 #[.int .i64 z] U fun e w'=>e=.returned (.agg #[.int .u8 1,.int .i64 z])/\L0d U w'):=hid bJ;have HO:Hid (∀(z:Int) (U:World),Calls prog 220 #[.int .i64 (pc:Int),.int .i64 2,.agg #[.int .u8 1,.int .i64 z]] U fun e w'=>C2 2 [(1,z)] ((pc:Int)+1) 0 U e w'):=hid fun z U=>cG pc 2 (1,z) U hpc
 go_enter func224,ntmps224;go_wp2_with fail;refine (HN.out _ _).mono ?_;rintro e w1 ⟨rfl,xa⟩;have xf:=hid xa;have xc:W.heap.size+1+1 < w1.heap.size:=L0a R5 xa.size;have c0:w1.cell? ⟨W.heap.size+1+1,0,none⟩=some (.int .i64 0):=keep xa R5 Q9;have c1:w1.cell? ⟨W.heap.size+1+1,1,none⟩=some (.slice none 0 0):=keep xa R5 Q9;have c2:w1.cell? ⟨W.heap.size+1+1,2,none⟩=some (.int .i64 0):=keep xa R5 Q9
 have c3:w1.cell? ⟨W.heap.size+1+1,3,none⟩=some (.int .i64 0):=keep xa R5 Q9;have z0:w1.frozen? ⟨W.heap.size+1+1,0,none⟩=false:=B9 xa R5 Q9;have z1:w1.frozen? ⟨W.heap.size+1+1,1,none⟩=false:=B9 xa R5 Q9;have z2:w1.frozen? ⟨W.heap.size+1+1,2,none⟩=false:=B9 xa R5 Q9;have z3:w1.frozen? ⟨W.heap.size+1+1,3,none⟩=false:=B9 xa R5 Q9
 clear xa;go_wp2_with fail;refine (HO.out _ _).mono ?_;rintro e w2 ⟨pa,xe,rfl,xb,xd⟩;have xh:=hid xb;have xg:=hid xd;have d0:=keep xb xc c0;have d1:=keep xb xc c1;have d2:=keep xb xc c2;have d3:=keep xb xc c3;have y0:=B9 xb xc z0;have y1:=B9 xb xc z1;have xi:=B9 xb xc z2;have y3:=B9 xb xc z3;clear xb xd c0 c1 c2 c3 z0 z1 z2 z3;go_wp2_with fail;refine bodyPost_ret (v:=.agg #[.int .i64 2,.slice pa 1 xe,.int .i64 ((pc:Int)+1),.int .i64 0]) (by simp [results,results224,go_sem,d0,d1,d2,d3]) rfl ?_
 exact C2.stored (W:=w1) (C5 xf.out P8 Q8) xh.out xg.out R4 xc _ _ _ _
theorem xC (pc:Nat) (hpc:pc<=1000) (x2 y2:Int) (W:World):Calls prog 224 #[.int .i64 9,.int .i64 (pc:Int),.agg #[.int .u8 1,.int .i64 x2],.agg #[.int .u8 1,.int .i64 y2]] W fun e w'=>C2 2 [(1,wrap64 (x2*y2))] ((pc:Int)+1) 0 W e w':=by
 have HN:Hid (∀(z:Int) (U:World),Calls prog 215 #[.int .i64 z] U fun e w'=>e=.returned (.agg #[.int .u8 1,.int .i64 z])/\L0d U w'):=hid bJ;have HO:Hid (∀(z:Int) (U:World),Calls prog 220 #[.int .i64 (pc:Int),.int .i64 2,.agg #[.int .u8 1,.int .i64 z]] U fun e w'=>C2 2 [(1,z)] ((pc:Int)+1) 0 U e w'):=hid fun z U=>cG pc 2 (1,z) U hpc
 go_enter func224,ntmps224;go_wp2_with fail;refine (HN.out _ _).mono ?_;rintro e w1 ⟨rfl,xa⟩;have xf:=hid xa;have xc:W.heap.size+1+1 < w1.heap.size:=L0a R5 xa.size;have c0:w1.cell? ⟨W.heap.size+1+1,0,none⟩=some (.int .i64 0):=keep xa R5 Q9;have c1:w1.cell? ⟨W.heap.size+1+1,1,none⟩=some (.slice none 0 0):=keep xa R5 Q9;have c2:w1.cell? ⟨W.heap.size+1+1,2,none⟩=some (.int .i64 0):=keep xa R5 Q9
 have c3:w1.cell? ⟨W.heap.size+1+1,3,none⟩=some (.int .i64 0):=keep xa R5 Q9;have z0:w1.frozen? ⟨W.heap.size+1+1,0,none⟩=false:=B9 xa R5 Q9;have z1:w1.frozen? ⟨W.heap.size+1+1,1,none⟩=false:=B9 xa R5 Q9;have z2:w1.frozen? ⟨W.heap.size+1+1,2,none⟩=false:=B9 xa R5 Q9;have z3:w1.frozen? ⟨W.heap.size+1+1,3,none⟩=false:=B9 xa R5 Q9
 clear xa;go_wp2_with fail;refine (HO.out _ _).mono ?_;rintro e w2 ⟨pa,xe,rfl,xb,xd⟩;have xh:=hid xb;have xg:=hid xd;have d0:=keep xb xc c0;have d1:=keep xb xc c1;have d2:=keep xb xc c2;have d3:=keep xb xc c3;have y0:=B9 xb xc z0;have y1:=B9 xb xc z1;have xi:=B9 xb xc z2;have y3:=B9 xb xc z3;clear xb xd c0 c1 c2 c3 z0 z1 z2 z3;go_wp2_with fail;refine bodyPost_ret (v:=.agg #[.int .i64 2,.slice pa 1 xe,.int .i64 ((pc:Int)+1),.int .i64 0]) (by simp [results,results224,go_sem,d0,d1,d2,d3]) rfl ?_
 exact C2.stored (W:=w1) (C5 xf.out P8 Q8) xh.out xg.out R4 xc _ _ _ _
theorem tQ (pc:Nat) (hpc:pc<=1000) (x2 y2:Int) (W:World):Calls prog 224 #[.int .i64 10,.int .i64 (pc:Int),.agg #[.int .u8 1,.int .i64 x2],.agg #[.int .u8 1,.int .i64 y2]] W fun e w'=>C2 2 [(1,C9 (decide (x2 < y2)))] ((pc:Int)+1) 0 W e w':=by
 have HN:Hid (∀(b:Bool) (U:World),Calls prog 223 #[.bool b] U fun e w'=>e=.returned (.agg #[.int .u8 1,.int .i64 (C9 b)])/\L0d U w'):=hid gH;have HO:Hid (∀(z:Int) (U:World),Calls prog 220 #[.int .i64 (pc:Int),.int .i64 2,.agg #[.int .u8 1,.int .i64 z]] U fun e w'=>C2 2 [(1,z)] ((pc:Int)+1) 0 U e w'):=hid fun z U=>cG pc 2 (1,z) U hpc
 go_enter func224,ntmps224;go_wp2_with fail;refine (HN.out _ _).mono ?_;rintro e w1 ⟨rfl,xa⟩;have xf:=hid xa;have xc:W.heap.size+1+1 < w1.heap.size:=L0a R5 xa.size;have c0:w1.cell? ⟨W.heap.size+1+1,0,none⟩=some (.int .i64 0):=keep xa R5 Q9;have c1:w1.cell? ⟨W.heap.size+1+1,1,none⟩=some (.slice none 0 0):=keep xa R5 Q9;have c2:w1.cell? ⟨W.heap.size+1+1,2,none⟩=some (.int .i64 0):=keep xa R5 Q9
 have c3:w1.cell? ⟨W.heap.size+1+1,3,none⟩=some (.int .i64 0):=keep xa R5 Q9;have z0:w1.frozen? ⟨W.heap.size+1+1,0,none⟩=false:=B9 xa R5 Q9;have z1:w1.frozen? ⟨W.heap.size+1+1,1,none⟩=false:=B9 xa R5 Q9;have z2:w1.frozen? ⟨W.heap.size+1+1,2,none⟩=false:=B9 xa R5 Q9;have z3:w1.frozen? ⟨W.heap.size+1+1,3,none⟩=false:=B9 xa R5 Q9
 clear xa;go_wp2_with fail;refine (HO.out _ _).mono ?_;rintro e w2 ⟨pa,xe,rfl,xb,xd⟩;have xh:=hid xb;have xg:=hid xd;have d0:=keep xb xc c0;have d1:=keep xb xc c1;have d2:=keep xb xc c2;have d3:=keep xb xc c3;have y0:=B9 xb xc z0;have y1:=B9 xb xc z1;have xi:=B9 xb xc z2;have y3:=B9 xb xc z3;clear xb xd c0 c1 c2 c3 z0 z1 z2 z3;go_wp2_with fail;refine bodyPost_ret (v:=.agg #[.int .i64 2,.slice pa 1 xe,.int .i64 ((pc:Int)+1),.int .i64 0]) (by simp [results,results224,go_sem,d0,d1,d2,d3]) rfl ?_
 exact C2.stored (W:=w1) (C5 xf.out P8 Q8) xh.out xg.out R4 xc _ _ _ _
structure ThR where
 kind:Int
 fv:Value
 fl:List Val
 slot:Int
def ThR.cells (o:ThR):List Value:=[.int .u8 o.kind,o.fv,.int .i64 o.slot]
theorem ThR.cells_len (o:ThR):o.cells.length=3:=rfl
structure RfR where
 cap:Nat
 st:Int
 ov:Value
 out:List Int
 cv:Value
 frs:List FrR
 hv:Value
 ths:List ThR
 da:Option Addr
 dc:Nat
 dr:List Int
structure A8 (w:World) (own:Own) (mb:Nat) (g:PgR) (R:RfR):Prop where
 lt:∀k t,own k=some t->k < w.heap.size
 me:own mb=some .mach
 c0:w.cell? ⟨mb,0,none⟩=some (.slice g.a g.n g.c)
 c1:w.cell? ⟨mb,1,none⟩=some (.int .i64 (R.cap:Int))
 c2:w.cell? ⟨mb,2,none⟩=some (.int .i64 R.st)
 c3:w.cell? ⟨mb,3,none⟩=some R.ov
 c4:w.cell? ⟨mb,4,none⟩=some R.cv
 c5:w.cell? ⟨mb,5,none⟩=some R.hv
 c6:w.cell? ⟨mb,6,none⟩=some (.slice R.da R.dr.length R.dc)
 fz:∀j,w.frozen? ⟨mb,j,none⟩=false
 out:Row w own .out 3 1 R.ov R.out.length (R.out.map fun n=>.int .i64 n)
 called:Row w own .called 86 4 R.cv R.frs.length (R.frs.flatMap FrR.cells)
 things:Row w own .slots 100 3 R.hv R.ths.length (R.ths.flatMap ThR.cells)
 loc:∀i f,R.frs[i]?=some f->Row w own (.loc i) 92 2 f.lv f.loc.length (A5 f.loc)
 stk:∀i f,R.frs[i]?=some f->Row w own (.stk i) 92 2 f.sv f.stk.length (A5 f.stk)
 fld:∀j o,R.ths[j]?=some o->Row w own (.fld j) 92 2 o.fv o.fl.length (A5 o.fl)
 pg:I5 w.heap.size w g
 ro:∀k,g.blk k->own k=none
 ro0:own 0=none
 dle:R.dr.length<=R.dc
 draws:J2 w R.da R.dr
 dro:∀b o,R.da=some ⟨b,o,none⟩->b < w.heap.size/\own b=none
theorem A8.same {w W:World} {own:Own} {mb:Nat} {g:PgR} {R:RfR} (h:A8 w own mb g R) (hB:L0d w W):A8 W own mb g R:=by
 have hm:=h.lt _ _ h.me;have hk:∀t k,own k=some t->W.heap[k]?=w.heap[k]?/\own k=some t:=fun t k e=>⟨hB.block k (h.lt k t e),e⟩
 exact⟨fun k t e=>L0a (h.lt k t e) hB.size,h.me,keep hB hm h.c0,keep hB hm h.c1,keep hB hm h.c2,keep hB hm h.c3,keep hB hm h.c4,keep hB hm h.c5,keep hB hm h.c6,fun j=>B9 hB hm (h.fz j),h.out.kept (hk _),h.called.kept (hk _),h.things.kept (hk _),fun i f e=>(h.loc i f e).kept (hk _),fun i f e=>(h.stk i f e).kept (hk _),fun i f e=>(h.fld i f e).kept (hk _),h.pg.held hB.size fun k hk=>hB.block k (h.pg.blk_lt hk),h.ro,h.ro0,h.dle,h.draws.later hB,fun b o e=>⟨L0a (h.dro b o e).1 hB.size,(h.dro b o e).2⟩⟩
theorem Row.cells {α:Type} {c:α->List Value} {sz:Nat} (hc:∀x,(c x).length=sz) {w:World} {own:Own} {t:Tag} {e:Nat} {v:Value} {l:List α} (h:Row w own t e sz v l.length (l.flatMap c)) :
  ∃a cp,v=.slice a l.length cp/\l.length<=cp/\(0 < l.length->∃b,a=some ⟨b,0,none⟩/\b < w.heap.size/\own b=some t/\(∀j,w.frozen? ⟨b,j,none⟩=false)/\∀(i j:Nat) (x:α) (u:Value),l[i]?=some x->j < sz->(c x)[j]?=some u->w.cell? ⟨b,i*sz+j,none⟩=some u):=by
 rcases h.1.2 with ⟨rfl,h0⟩ | ⟨g,xa,xc,rfl,_,hg,h3,h4,h5,h6⟩
 ·exact ⟨none,0,by rw [h0],by omega,fun hp=>by omega⟩
 ·refine ⟨_,xa,rfl,h3,fun _=>⟨g,rfl,(L2b.1 hg).1,h.2 g rfl,fun j=>by simp [World.frozen?,hg],fun i j x u hx hj hu=>?_⟩⟩
  have h7:=E0 hc hx hj;rw[hu,<- h6] at h7;have xb:i*sz+j < l.length*sz:=by
   have h8:=(L1a.1 hx).1;have:(i+1)*sz<=l.length*sz:=Nat.mul_le_mul_right _ h8;rw[Nat.succ_mul] at this;omega
  rw[List.getElem?_take,if_pos xb] at h7;simp only[World.cell?,hg];simpa using h7
section
variable {W:World} {mb:Nat} {sl:List Int}
def cH (W:World) (mb:Nat) (sl:List Int):Prop:=mb < W.heap.size/\∃a cp,W.cell? ⟨mb,5,none⟩=some (.slice a sl.length cp)/\(0 < sl.length->∃b,a=some ⟨b,0,none⟩/\b < W.heap.size/\∀(i:Nat) (x:Int),sl[i]?=some x->W.cell? ⟨b,i*3+2,none⟩=some (.int .i64 x))
theorem A8.slotsIn {w:World} {own:Own} {g:PgR} {R:RfR} (h:A8 w own mb g R):cH w mb (R.ths.map ThR.slot):=by
 obtain⟨a,cp,hv,_,hc⟩:=Row.cells ThR.cells_len h.things;refine⟨h.lt _ _ h.me,a,cp,by rw [h.c5,hv,List.length_map],fun h0=>?_⟩;rw[List.length_map] at h0;obtain⟨b,rfl,hb,_,_,xa⟩:=hc h0;refine⟨b,rfl,hb,fun i x hx=>?_⟩;rw[List.getElem?_map] at hx
 cases e:R.ths[i]? with
 | none=>rw [e] at hx;cases hx
 | some o =>
  rw[e] at hx
  cases hx;exact xa i 2 o _ e R3 rfl
theorem cH.later {U:World} (h:cH W mb sl) (hB:L0d W U):cH U mb sl:=by
 obtain⟨hm,a,cp,hc,hx⟩:=h;refine⟨L0a hm hB.size,a,cp,keep hB hm hc,fun h0=>?_⟩;obtain⟨b,e,hb,xa⟩:=hx h0;exact⟨b,e,L0a hb hB.size,fun i x hx=>keep hB hb (xa i x hx)⟩
theorem uS (v:Int) (hl:cH W mb sl) (hn:sl.length<=4611686018427387904) :
  Calls prog 52 #[.pointer (some ⟨mb,0,none⟩),.int .i64 v] W fun e w'=>e=.returned (.int .i64 (D8 sl 0 v))/\w'=W:=by
 obtain⟨hm,a,cp,m5,hx⟩:=hl;have HL:=hid hx;clear hx;go_enter func52,ntmps52;go_wp2_with fail;go_loopw [5] (fun vi wr=>∃i:Nat,i<=sl.length/\vi=.int .i64 i/\(∀(j:Nat) (x:Int),j < i->sl[j]?=some x->x≠v)/\W=wr) (fun vi _=>sl.length - (intOf vi).toNat)
 case atStart=>exact ⟨0,L4c _,rfl,fun j x hj=>by omega,by first | rfl | trivial⟩
 case round =>
  obtain⟨i,hi,rfl,xc,rfl⟩:=hrel;have xa:=hid xc;clear xc;by_cases hlt:i < sl.length
  ·obtain ⟨x,hx⟩:∃x,sl[i]?=some x:=⟨_,L1b hlt⟩
   obtain⟨b,rfl,hb,xb⟩:=HL.out R4;have x0:=xb i x hx;have HX:=hid hx;clear xb hx;by_cases hxv:x=v
   ·subst hxv
    have HP:=hid (mD sl 0 x i HX.out xa.out);go_wp2_with fail;go_ret;exact⟨by rw [HP.out];simp,by first | rfl | trivial⟩
   ·have xd:(x == v)=false:=L2c.2 hxv
    go_wp2_with fail;go_roundw
    case rel=>exact ⟨i+1,by omega,by go_num,fun j y hj hy=>by
     by_cases e:j=i
     ·subst e
      rw[HX.out] at hy
      cases hy;exact hxv
     ·exact xa.out j y R4 hy,by first | rfl | trivial⟩
    case measure=>simp [intOf];omega
  ·obtain rfl:i=sl.length:=by omega
   have HP:Hid (D8 sl 0 v = -1):=hid (cN sl 0 v fun y hy=>by
    obtain⟨j,hj,e⟩:=List.mem_iff_getElem.1 hy;exact xa.out j y hj (by rw [<- e];exact L1b hj))
   go_wp2_with fail;go_ret;exact⟨by rw [HP.out];rfl,by first | rfl | trivial⟩
theorem mE {l:List Int} {v:Int} : D8 l 0 v < 0↔¬v∈l:=by
 constructor
 ·intro h hm
  have:∀(l:List Int) (n:Int),0<=n->v∈l->0<=D8 l n v:=by
   intro l
   induction l with
   | nil=>intro n _ hm;cases hm
   | cons x l ih =>
    intro n hn hm;rw[D8];split
    ·exact hn
    ·rename_i hx
     rcases List.mem_cons.1 hm with e | hm
     ·exact absurd e.symm hx
     ·exact ih (n+1) R4 hm
  have:=this l 0 R4 hm;omega
 ·intro h
  rw[cN l 0 v fun x hx e=>h (e▸hx)]
  decide
def aC (sl:List Int):Nat->Nat->Int
 | 0,_ => -1
 | m+1,n=>if (n:Int)∈sl then aC sl m (n+1) else (n:Int)
theorem lS {cap:Nat} (hl:cH W mb sl) (hn:sl.length<=4611686018427387904) (hc:W.cell? ⟨mb,1,none⟩=some (.int .i64 (cap:Int))) (hcap:cap<=1000) :
  Calls prog 88 #[.pointer (some ⟨mb,0,none⟩)] W fun e w'=>e=.returned (.int .i64 (aC sl cap 0))/\w'=W:=by
 have HA:Hid (∀v:Int,Calls prog 52 #[.pointer (some ⟨mb,0,none⟩),.int .i64 v] W fun e w'=>e=.returned (.int .i64 (D8 sl 0 v))/\w'=W):=hid fun v=>uS v hl hn
 have hm:=hl.1;clear hl;go_enter func88,ntmps88;go_wp2_with fail;go_loopw [3] (fun vi wr=>∃i:Nat,i<=cap/\vi=.int .i64 i/\aC sl cap 0=aC sl (cap - i) i/\W=wr) (fun vi _=>cap - (intOf vi).toNat)
 case atStart=>exact ⟨0,L4c _,rfl,rfl,by first | rfl | trivial⟩
 case round =>
  obtain⟨i,hi,rfl,xb,rfl⟩:=hrel;have HF:=hid xb;clear xb;by_cases hlt:i < cap
  ·have xc:(i:Int) < (cap:Int):=by omega
   have xa:=mE (l:=sl) (v:=(i:Int));have HS:Hid (aC sl (cap - i) i=if (i:Int)∈sl then aC sl (cap - (i+1)) (i+1) else (i:Int)):=hid (by
    rw[show cap - i=(cap - (i+1))+1 by omega];rfl)
   by_cases hin:(i:Int)∈sl
   ·have hq:¬D8 sl 0 (i:Int) < 0:=fun c=>xa.1 c hin
    clear xa;go_wp2_with (go_at_call 52;refine (HA.out _).mono ?_;rintro e w' ⟨rfl,hw⟩;rw [hw];clear hw w')
    exact⟨⟨i+1,by omega,by go_num,by rw [HF.out,HS.out,if_pos hin],by first | rfl | trivial⟩,by simp [intOf];omega⟩
   ·have hq:D8 sl 0 (i:Int) < 0:=xa.2 hin
    clear xa;go_wp2_with (go_at_call 52;refine (HA.out _).mono ?_;rintro e w' ⟨rfl,hw⟩;rw [hw];clear hw w')
    go_ret;exact⟨by rw [HF.out,HS.out,if_neg hin];rfl,by first | rfl | trivial⟩
  ·obtain rfl:i=cap:=by omega
   have HP:Hid (aC sl i 0 = -1):=hid (by rw [HF.out,Nat.sub_self];rfl);go_wp2_with fail;go_ret;exact⟨by rw [HP.out];rfl,by first | rfl | trivial⟩
end
section
variable {B:Nat} {W:World} {l:List Val} {met:List Nat} {v:Value}
def X2 (l:List Nat):List Value:=l.map fun (n:Nat)=>Value.int .i64 (n:Int)
theorem a0M (l:List Nat) (j:Nat):X2 (l++[j])=X2 l++[.int .i64 (j:Int)]:=by simp [X2]
theorem a0H {i:Nat} {x:Val} (h:l[i]?=some x):C1 met (l.take (i+1))=if x.1=2/\x.2.toNat∉C1 met (l.take i) then C1 met (l.take i)++[x.2.toNat] else C1 met (l.take i):=by
 have e:l.take (i+1)=l.take i++[x]:=by rw [List.take_add_one,h];rfl
 rw[e,iK];rfl
def O5 (W:World) (B:Nat) (a:Option Addr) (l:List Val):Prop:=0 < l.length->∃b,a=some ⟨b,0,none⟩/\b < B/\∀(i:Nat) (x:Val),l[i]?=some x->W.cell? ⟨b,i*2,none⟩=some (.int .u8 x.1)/\W.cell? ⟨b,i*2+1,none⟩=some (.int .i64 x.2)
theorem O3 {l:List Nat} (h:W.ownsRow B 3 1 v l.length (X2 l)):∃a c,v=.slice a l.length c/\J2 W a (l.map fun n:Nat=>(n:Int)):=by
 rcases id h.2 with ⟨rfl,h0⟩ | ⟨g,xa,xb,rfl,_,hg,h3,h4,h5,h6⟩
 ·exact ⟨none,0,by rw [h0],fun hp=>by rw [List.length_map] at hp;omega⟩
 ·refine ⟨_,xa,rfl,fun _=>⟨g,0,rfl,(L2b.1 hg).1,fun i x hx=>?_⟩⟩
  rw[List.getElem?_map] at hx
  cases e:l[i]? with
  | none=>rw [e] at hx;cases hx
  | some n =>
   rw[e] at hx
   cases hx;have hi:=(L1a.1 e).1;have h7:(X2 l)[i]?=some (.int .i64 (n:Int)):=by unfold X2;rw [List.getElem?_map,e];rfl
   rw[<- h6,List.getElem?_take,if_pos R4] at h7;rw[Nat.zero_add];simp only[World.cell?,hg];simpa using h7
theorem cE {l:List Nat} {j:Nat} : D8 (l.map fun n:Nat=>(n:Int)) 0 (j:Int) < 0↔j∉l:=by
 rw[mE];constructor
 ·intro h hm
  exact h (List.mem_map.2 ⟨j,hm,rfl⟩)
 ·intro h hm
  obtain⟨i,hi,e⟩:=List.mem_map.1 hm;have:i=j:=by omega
  exact h (this▸hi)
theorem a2T (l:List Val):∀met:List Nat,(C1 met l).length<=met.length+l.length:=by
 induction l with
 | nil=>intro met;simp [C1]
 | cons v l ih =>
  intro met;rw[C1];have:=ih (if v.1=2/\v.2.toNat∉met then met++[v.2.toNat] else met);have h2:(if v.1=2/\v.2.toNat∉met then met++[v.2.toNat] else met).length<=met.length+1:=by split <;> simp
  rw[List.length_cons];omega
theorem gY {w w':World} {e size n:Nat} {xs:List Value} (hB:Below B w W) (hBw:B<=w.heap.size) (ho:W.ownsRow B e size v n xs) (hg:W.grownBy w' v.ownBlock):Below B w w' :=
 ⟨hg.os.trans hB.os,hg.tape.trans hB.tape,hg.output.trans hB.output,L5a hB.size hg.size,fun k hk=>(hg.block k (L0a (L0a hk hBw) hB.size) (fun e=>by have:=(ho.lt k e.symm).1;omega)).trans (hB.block k hk)⟩
theorem zH {a:Option Addr} {c:Nat} (hBW:B<=W.heap.size) (hrow:W.ownsRow B 3 1 v met.length (X2 met)) (hs:O5 W B a l) (hr:∀u,u∈l->u.1=2->0<=u.2) (hn:met.length+l.length<=1000000000000) :
  Calls prog 127 #[v,.slice a l.length c] W fun e w'=>∃v',e=.returned v'/\w'.ownsRow B 3 1 v' (C1 met l).length (X2 (C1 met l))/\Below B W w':=by
 obtain⟨i3,hi,hz,xl,xj⟩:=info_parts dW;have HI:=hid hi;have HZ:=hid hz;have xq:=hid xl;have xo:=hid xj;have HS:=hid hs;have HR:=hid hr;have xe:=hid hrow;obtain⟨va,vc,rfl,_⟩:=O3 hrow;clear hi hz xl xj hs hr hrow;go_enter func127,ntmps127;go_wp2_with fail;go_loopw [0,5] (fun vl vi wr=>∃i:Nat,i<=l.length/\vi=.int .i64 i/\wr.ownsRow B 3 1 vl (C1 met (l.take i)).length (X2 (C1 met (l.take i)))/\Below B W wr) (fun _ vi _=>l.length - (intOf vi).toNat)
 case atStart=>exact ⟨0,L4c _,rfl,xe.out,L3b _ _⟩
 case round =>
  obtain⟨i,hi,rfl,hrow,xb⟩:=hrel;have xp:=a2T (l.take i) met;rw[List.length_take] at xp;have xt:(C1 met (l.take i)).length<=1000000000000:=by omega
  obtain⟨la,lc,rfl,xa⟩:=O3 hrow;have xc:=hid hrow;have xd:=hid xb;by_cases hlti:i < l.length
  ·obtain ⟨x,hx⟩:∃x,l[i]?=some x:=⟨_,L1b hlti⟩
   obtain⟨sb,rfl,xk,xf⟩:=HS.out R4;obtain⟨x0,x1⟩:=xf i x hx;rw[<- xb.cell (p:=⟨sb,_,none⟩) xk] at x0 x1;have xu:sb < wr.heap.size:=L0a (L0a xk hBW) xb.size;have xh:=hid (a0H (met:=met) hx);have xr:B<=wr.heap.size:=L5a hBW xb.size;by_cases h2:x.1=2
   ·obtain ⟨j,hj⟩:=L5c (HR.out x (L2a hx) h2)
    rw[h2] at x0;rw[hj] at x1;have xi:x.2.toNat=j:=by rw [hj];rfl
    have xm:Hid (Calls prog 103 #[.slice la (C1 met (l.take i)).length lc,.int .i64 (j:Int)] wr fun e w'=>e=.returned (.int .i64 (D8 ((C1 met (l.take i)).map fun n:Nat=>(n:Int)) 0 (j:Int)))/\w'=wr):=hid (by
     have:=eU la lc ((C1 met (l.take i)).map fun n:Nat=>(n:Int)) (j:Int) xa (by rw [List.length_map];omega);rw[List.length_map] at this;exact this)
    have xg:=cE (l:=C1 met (l.take i)) (j:=j);by_cases hin:j∈C1 met (l.take i)
    ·have hq:¬D8 ((C1 met (l.take i)).map fun n:Nat=>(n:Int)) 0 (j:Int) < 0:=fun cc=>xg.1 cc hin
     clear hrow xb hx xf xa xg;go_wp2_with (go_at_call 103;refine xm.out.mono ?_;rintro e w' ⟨rfl,hw⟩;rw [hw];clear hw w')
     go_roundw
     case rel=>exact ⟨i+1,by omega,by go_num,by
      rw[xh.out,if_neg (fun e=>e.2 (by rw [xi];exact hin))];exact xc.out,xd.out⟩
     case measure=>simp [intOf];omega
    ·have hq:D8 ((C1 met (l.take i)).map fun n:Nat=>(n:Int)) 0 (j:Int) < 0:=xg.2 hin
     clear hrow xb hx xf xa xg;go_wp2_with (first | (go_at_call 103;refine xm.out.mono ?_;rintro e w' ⟨rfl,hw⟩;rw [hw];clear hw w') | (at_builtin;go_must (refine A9 _ rfl (.tmp 28) (.tmp 34) 24 rfl B 3 i3 _ 1 8 underlying24 HI.out HZ.out xq.out xo.out rfl R3 (.slice la (C1 met (l.take i)).length lc) (C1 met (l.take i)).length (X2 (C1 met (l.take i))) rfl (xc.out.alloc _) (some ⟨wr.heap.size,0,none⟩) 1 1 [.int .i64 (j:Int)] rfl rfl (fun _=>⟨_,rfl,World.news_of_block (cs:=#[.int .i64 (j:Int)]) (t:=3) (fr:=(0,0)) (B1 R5)⟩) (by intro u hu;rw [List.mem_singleton] at hu;subst hu;rfl) Q5 R4 Q8 ?_)))
     intro v1 w1 hown1 hgrow1 _;have xn:=hid (gY (L3a xd.out xr _) hBW (xc.out.alloc _) hgrow1);have xs:=hid hown1;clear hown1 hgrow1 x0 x1 hq;go_wp2_with fail;go_roundw
     case rel=>exact ⟨i+1,by omega,by go_num,by
      rw[xh.out,if_pos ⟨h2,by rw [xi];exact hin⟩,xi,a0M,List.length_append];exact xs.out,xn.out⟩
     case measure=>simp [intOf];omega
   ·have xv:(x.1 == 2)=false:=L2c.2 h2
    clear hrow xb hx xf xa;go_wp2_with fail;go_roundw
    case rel=>exact ⟨i+1,by omega,by go_num,by
     rw[xh.out,if_neg (fun e=>h2 e.1)];exact xc.out,xd.out⟩
    case measure=>simp [intOf];omega
  ·obtain rfl:i=l.length:=by omega
   clear hrow xb xa;go_wp2_with fail;go_ret;exact⟨_,rfl,by have:=xc.out;rw [List.take_length] at this ⊢;exact this,xd.out⟩
end
end Go.Proofs.YtbkmgoffiigdbaaGreatDoor
