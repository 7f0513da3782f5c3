import Derived.Deep.SlicePairs
import Derived.Deep.Strs
import Derived.Test.YtbkmgoffiigdbaaGreatDoorXCj
import Derived.Test.YtbkmgoffiigdbaaGreatDoorVDa
import Derived.Test.YtbkmgoffiigdbaaGreatDoorVDb
namespace Go.Proofs.YtbkmgoffiigdbaaGreatDoor
open Go.ChangeShapes Go.WideShapes Go.ChangeAt Go.RowKit Go.Proofs.Tryz
set_option maxHeartbeats 4000000
set_option maxRecDepth 100000
section
variable {H:Type} {W:World} {cs:List Value} {enc:TypeId × Value->H} {fuel:Nat} {x:DataW H × List MemPlace}
theorem pK:prog.cellsOf 3=1:=by kernel_rfl
theorem a4w:prog.cellsOf 39=1:=by kernel_rfl
theorem a4x:prog.cellsOf 41=1:=by kernel_rfl
theorem a2h:prog.cellsOf 161=1:=by kernel_rfl
theorem rW:prog.cellsOf 163=3:=by kernel_rfl
theorem a2i:prog.cellsOf 165=2:=by kernel_rfl
theorem a2d:prog.bytesOf 163=40:=by kernel_rfl
theorem a2e:prog.bytesOf 165=16:=by kernel_rfl
theorem a4t {l:List Nat} {b:Nat} (h:l.all (·<=b)=true) {x:Nat} (hx:x∈l):x<=b:=by
 have:=List.all_eq_true.1 h x hx;simpa using this
theorem a4P (h:DataW.trod enc prog W 0 (fun _=>true) true fuel 163 cs=some x) (hw:∀y∈x.1.weights prog 163,y<=140737488351232) :
  ∃f:FnR,cs=[.int .i64 f.p,.int .i64 f.l,.slice f.a f.n f.c]/\L1 W.heap.size W f/\f.n*16<=140737488351232/\(f.a=none->f.n=0/\f.c=0):=by
 obtain⟨y0,y1,y2,n,hx,hl,h0,h1,h2⟩:=Go.Deep.trod_struct3 underlying163 h;rw[rW] at hl
 match cs,hl with
 | [u0,u1,u2],_ =>
  simp only[List.drop,pK,a2h,List.take] at h0 h1 h2;obtain⟨p,e0,_,_⟩:=DataW.trod_int underlying3 h0;obtain⟨l,e1,_,_⟩:=DataW.trod_int underlying3 h1;simp only[List.cons.injEq,and_true] at e0 e1;subst e0 e1;rcases Go.Deep.open_slice_pairs underlying161 underlying165 a2i rfl rfl pK pK h2 with ⟨xd,_⟩ | ⟨a,len,xn,m,n',V0,V1,D0,D1,P0,P1,xd,_,xl,hm,xg,xj,xa⟩
  ·simp only [List.cons.injEq,and_true] at xd
   subst xd;exact⟨⟨p,l,none,0,0,0,0,fun _=>0,fun _=>0⟩,rfl,⟨by show 0<=_;omega,fun hn=>absurd hn (by show ¬0 < 0;omega)⟩,by show 0*16<=_;omega,fun _=>⟨rfl,rfl⟩⟩
  ·simp only [List.cons.injEq,and_true] at xd
   subst xd;simp only[if_true] at xg;subst xg;obtain⟨op,xk⟩:=Go.Deep.choose_lt (α:=Int) (n:=m) (p:=fun i v=>V0 i=.int .i64 v) (fun i hi=>by
    obtain⟨v,e,_,_⟩:=DataW.trod_int underlying3 (xa i hi).2.2.1;exact⟨v,by simpa using e⟩)
   obtain⟨ar,xi⟩:=Go.Deep.choose_lt (α:=Int) (n:=m) (p:=fun i v=>V1 i=.int .i64 v) (fun i hi=>by
    obtain⟨v,e,_,_⟩:=DataW.trod_int underlying3 (xa i hi).2.2.2;exact⟨v,by simpa using e⟩)
   have xb:len*16<=140737488351232:=by
    have xh:x.1=.agg [y0.1,y1.1,y2.1]:=by rw [hx]
    have:(len+(m - len))*16∈x.1.weights prog 163:=by
     rw[xh,xj];simp[DataW.weights,DataW.weightsEach,underlying163,underlying161,a2e]
    have:=hw _ this;omega
   refine⟨⟨p,l,some a,len,m,a.block,a.off,op,ar⟩,rfl,⟨?_,fun hn=>?_⟩,xb,fun h=>by cases h⟩
   ·show len<=_;omega
   ·have xo:0 < len:=hn
    have c0:=(xa 0 R4).1;have xf:a.add (0*2)=a:=by simp [Addr.add]
    rw[xf] at c0;obtain⟨b,o,xe⟩:=a;have xc:xe=none:=World.cell?_spot c0;subst xc;refine⟨rfl,World.block_lt_of_cell? _ _ c0,fun j hj=>?_⟩;have xm:j < len:=hj;obtain⟨q0,q1,_,_⟩:=xa j R4;rw[add_plain,xk j R4] at q0;rw[add_plain,xi j R4] at q1;exact⟨q0,q1⟩
theorem eN {H:Type} {e:TypeId} {l:List (DataW H)} {d:DataW H} (hd:d∈l) {y:Nat} (hy:y∈d.weights prog e):y∈DataW.weightsAll prog e l:=by
 induction l with
 | nil=>cases hd
 | cons a r ih =>
  rw[DataW.weightsAll,List.mem_append];rcases List.mem_cons.1 hd with rfl | hd
  ·exact Or.inl hy
  ·exact Or.inr (ih hd)
theorem a0Q (h:DataW.trod enc prog W 0 (fun _=>true) true fuel 39 cs=some x) (hw:∀y∈x.1.weights prog 39,y<=140737488351232) :
  ∃g:PgR,cs=[.slice g.a g.n g.c]/\I7 W.heap.size W g/\gV g:=by
 rcases Go.Deep.open_slice underlying39 h with ⟨xd,_⟩ | ⟨a,len,xq,m,n,D,Pl,xd,_,xn,hm,xg,hx,xa⟩
 ·subst xd
  exact⟨⟨none,0,0,0,0,fun _=>⟨0,0,none,0,0,0,0,fun _=>0,fun _=>0⟩⟩,rfl,⟨by show 0<=_;omega,fun hn=>absurd hn (by show ¬0 < 0;omega),fun i hi=>absurd hi (by show ¬i < 0;omega)⟩,by show 0*40<=_;omega,fun i hi=>absurd hi (by show ¬i < 0;omega)⟩
 ·subst xd
  simp only[if_true] at xg;subst xg;rw[rW] at xa;have xf:x.1=.slice ((List.range len).map D) ((List.range (m - len)).map fun j=>D (len+j)):=by rw [hx]
  have xo:(len+(m - len))*40<=140737488351232:=hw _ (by rw [xf];simp [DataW.weights,underlying39,a2d]);have xj:∀i,i < len->∀y∈(D i).weights prog 163,y<=140737488351232:=fun i hi y hy=>hw y (by
   rw[xf];simp only[DataW.weights,underlying39,List.mem_cons,List.mem_append];exact Or.inr (Or.inl (eN (List.mem_map.2 ⟨i,List.mem_range.2 hi,rfl⟩) hy)))
  haveI:Inhabited FnR:=⟨⟨0,0,none,0,0,0,0,fun _=>0,fun _=>0⟩⟩
  obtain⟨f,hf⟩:=Go.Deep.choose_lt (α:=FnR) (n:=len) (p:=fun i f=>W.cells? 0 (a.add (i*3)) 3=some [.int .i64 f.p,.int .i64 f.l,.slice f.a f.n f.c]/\L1 W.heap.size W f/\f.n*16<=140737488351232/\(f.a=none->f.n=0/\f.c=0)) (fun i hi=>by
   obtain⟨xp,xk,xm⟩:=xa i R4;obtain⟨f,rfl,q1,q2,q3⟩:=a4P xm (xj i hi);exact⟨f,xk,q1,q2,q3⟩)
  refine⟨⟨some a,len,m,a.block,a.off,f⟩,rfl,⟨by show len<=_;omega,fun hn=>?_,fun i hi=>(hf i hi).2.1⟩,by show len*40<=_;omega,fun i hi=>(hf i hi).2.2⟩;have xl:0 < len:=hn;have c0:=(World.cells?_some (hf 0 xl).1).2.2 0 R4;have xe:(a.add (0*3)).add 0=a:=by simp [Addr.add]
  rw[xe] at c0;have xh:W.cell? a=some (.int .i64 (f 0).p):=c0;obtain⟨b,o,xc⟩:=a;have xb:xc=none:=World.cell?_spot xh;subst xb;refine⟨rfl,World.block_lt_of_cell? _ _ xh,fun i hi=>?_⟩;have xi:i < len:=hi;have hc:=(World.cells?_some (hf i xi).1).2.2;have q0:=hc 0 R4;have q1:=hc 1 R4;have q2:=hc 2 R4;rw[add_plain,add_plain] at q0 q1 q2;exact⟨q0,q1,q2⟩
end
end Go.Proofs.YtbkmgoffiigdbaaGreatDoor
namespace Go.Proofs.YtbkmgoffiigdbaaGreatDoor
open Go.RowKit Go.Sort Go.Proofs.Tryz
set_option maxHeartbeats 4000000
set_option maxRecDepth 100000
section
variable {M N cb i xb yb:Nat} {P:A3} {Y:PlR} {w:World} {w0:N4}
theorem a0F (h:Lw w0 P w yb Y N M) (hi:Y.ps[i]?=some (xb,cb)) (hN:N<=10000000000) (hM:M<=900000000) (kd:Int) :
  Calls prog 10 #[.pointer (some ⟨yb,0,none⟩),.agg #[.pointer (some ⟨xb,0,none⟩),.pointer (some ⟨cb,0,none⟩)],.int .i64 kd] w fun e w'=>e=.returned (.bool true)/\∃P2 Y2,Lw w0 P2 w' yb Y2 N (M+100)/\(Y2.ps=Y.ps/\Y2.psv=Y.psv):=by
 by_cases h3:kd=3
 ·rw [h3];exact qH h hi hN
 by_cases h4:kd=4
 ·rw [h4];exact a0G h hi hM
 by_cases h5:kd=5
 ·rw [h5];exact qG h hi hN hM
 exact wN h hi hN hM kd h3 h4 h5
theorem a4J (h:Lw w0 P w yb Y N M) (hi:Y.ps[i]?=some (xb,cb)) (hN:N<=10000000000) (hM:M<=900000000) (kd a b:Int) (k2:kd≠2) (k7:kd≠7) (k8:kd≠8) (k9:kd≠9) (k11:kd≠11) (fa la sa:Option Addr) (fn fc ln lc sn sc:Nat) :
  Calls prog 35 #[.pointer (some ⟨yb,0,none⟩),.agg #[.pointer (some ⟨xb,0,none⟩),.pointer (some ⟨cb,0,none⟩)],.agg #[.int .i64 kd,.int .i64 a,.int .i64 b,.slice fa fn fc,.slice la ln lc,.slice sa sn sc]] w fun e w'=>e=.returned (.bool true)/\∃P2 Y2,Lw w0 P2 w' yb Y2 N (M+100)/\(Y2.ps=Y.ps/\Y2.psv=Y.psv):=by
 have HL:=hid h;have HI:=hid hi;have HN:=hid hN;have HM:=hid hM;clear h hi hN hM;go_enter func35,ntmps35;go_wp2_with (go_at_call 10;refine (a0F (HL.out.below P8) HI.out HN.out HM.out kd).mono ?_;rintro e w1 ⟨rfl,P2,Y2,hW⟩;have HW:=hid hW;clear hW)
 go_ret;exact⟨rfl,P2,Y2,HW.out⟩
end
section
variable {Y:PlR} {cb xb yb:Nat} {w:World}
def PlR.join (Y:PlR) (p:Nat × Nat) (pv:Value):PlR:={ Y with ps:=Y.ps++[p],psv:=pv }
theorem I1.join {U w1:World} {v1:Value} (h:I1 w yb Y) (hU:Below w.heap.size w U) (hg:U.grownBy w1 Y.psv.ownBlock) (hat:∀g,v1.ownBlock=some g->Y.psv.ownBlock=some g\/g=U.heap.size) (ho:w1.ownsRow 0 48 2 v1 (Y.ps.length+1) (Y.ps.flatMap cQ++[.pointer (some ⟨xb,0,none⟩),.pointer (some ⟨cb,0,none⟩)])) :
  w1.cell? ⟨yb,0,none⟩=some Y.psv/\w1.frozen? ⟨yb,0,none⟩=false/\yb < w1.heap.size/\I1 (w1.setCell ⟨yb,0,none⟩ v1) yb (Y.join (xb,cb) v1)/\(∀k,k < w.heap.size->¬Q0 yb Y k->(w1.setCell ⟨yb,0,none⟩ v1).heap[k]?=w.heap[k]?)/\(∀k,Q0 yb (Y.join (xb,cb) v1) k->Q0 yb Y k\/w.heap.size<=k)/\w.heap.size<=(w1.setCell ⟨yb,0,none⟩ v1).heap.size/\(w1.setCell ⟨yb,0,none⟩ v1).os=w.os/\(w1.setCell ⟨yb,0,none⟩ v1).tape=w.tape/\(w1.setCell ⟨yb,0,none⟩ v1).output=w.output:=by
 have xc:=h.me;have xd:=hU.size;have xe:=hg.size;have K:∀k,k < w.heap.size->Y.psv.ownBlock≠some k->w1.heap[k]?=w.heap[k]?:=fun k hk hn=>(hg.block k R4 fun e=>hn e.symm).trans (hU.block k hk)
 have Ky:=K yb xc h.ne0;have c5:∀i,w1.cell? ⟨yb,i,none⟩=w.cell? ⟨yb,i,none⟩:=fun i=>L0b (a:=⟨yb,i,none⟩) Ky
 have z5:∀i,w1.frozen? ⟨yb,i,none⟩=w.frozen? ⟨yb,i,none⟩:=fun i=>L0c (a:=⟨yb,i,none⟩) Ky
 have xa:v1.ownBlock≠some yb:=fun e=>by
  rcases hat yb e with h' | h'
  ·exact h.ne0 h'
  ·omega
 have K2:∀k,k < w.heap.size->k≠yb->Y.psv.ownBlock≠some k->(w1.setCell ⟨yb,0,none⟩ v1).heap[k]?=w.heap[k]?:=fun k hk h1 h2=>(heap_setCell_other _ _ _ _ h1).trans (K k hk h2)
 refine⟨(c5 0).trans h.c0,(z5 0).trans (h.fz 0),by omega,⟨by simp;omega,fun j=>?_,World.cell?_setCell_same _ _ _ ((c5 0).trans h.c0),?_,xa,fun j h1 h2=>?_,fun j h1 h2=>?_,h.ne⟩,fun k hk hn=>K2 k hk (fun e=>hn (Or.inl e)) (fun e=>hn (Or.inr (Or.inl e))),fun k hk=>?_,by simp;omega,hg.os.trans hU.os,hg.tape.trans hU.tape,hg.output.trans hU.output⟩
 ·rw [<- h.fz j,<- z5 j];go_simp
 ·show World.ownsRow _ 0 48 2 v1 (Y.ps++[(xb,cb)]).length ((Y.ps++[(xb,cb)]).flatMap cQ)
  rw[List.length_append,List.flatMap_append];exact A7 ho fun b hb=>heap_setCell_other _ _ _ _ fun e=>xa (by have e':b=yb:=e;rw [<- e'];exact hb)
 ·refine (World.cell?_setCell_other _ _ _ _ fun e=>?_).trans ((c5 j).trans (h.c j h1 h2))
  simp only[Addr.mk.injEq] at e;omega
 ·exact A7 (h.row j h1 h2) fun b hb=>K2 b ((h.row j h1 h2).lt b hb).2 (fun e=>h.ne j h1 h2 (e▸hb)) (fun e=>H5 (h.row j h1 h2) h.row0 (a3M j) b hb e)
 ·rcases hk with hk | hk | ⟨j,h1,h2,hk⟩
  ·exact Or.inl (Or.inl hk)
  ·rcases hat k hk with h' | h'
   ·exact Or.inl (Or.inr (Or.inl h'))
   ·exact Or.inr R4
  ·exact Or.inl (Or.inr (Or.inr ⟨j,h1,h2,hk⟩))
theorem a5U:(prog.info? 48).map (fun i=>(i.zero,i.size,i.bytes))=some (some (.agg #[.pointer none,.pointer none]),2,16):=by kernel_rfl
theorem wE (e:Int) :
  Calls prog 19 #[.pointer (some ⟨yb,0,none⟩),.pointer none,.int .i64 e,.pointer none,.int .i64 e] w fun e w'=>e=.returned (.bool true)/\w'=w:=by
 go_enter func19,ntmps19;go_wp2_with fail;go_ret;exact⟨rfl,rfl⟩
theorem wD (h:I1 w yb Y) (hn:Y.ps.length<=1000000000) (e:Int) :
  Calls prog 19 #[.pointer (some ⟨yb,0,none⟩),.pointer (some ⟨xb,0,none⟩),.int .i64 e,.pointer (some ⟨cb,0,none⟩),.int .i64 e] w fun e w'=>e=.returned (.bool true)/\∃pv,I1 w' yb (Y.join (xb,cb) pv)/\(∀k,k < w.heap.size->¬Q0 yb Y k->w'.heap[k]?=w.heap[k]?)/\(∀k,Q0 yb (Y.join (xb,cb) pv) k->Q0 yb Y k\/w.heap.size<=k)/\w.heap.size<=w'.heap.size/\w'.os=w.os/\w'.tape=w.tape/\w'.output=w.output:=by
 obtain⟨xg,hi,hz,xc,xd⟩:=info_parts a5U;have HI:=hid hi;have HZ:=hid hz;have xi:=hid xc;have xf:=hid xd;have c0:=h.c0;have xj:=h.me;have HP:=hid h;have HN:=hid hn;generalize hpv:Y.psv=pv0 at c0;have xa:=hid hpv;clear hi hz xc xd h hn hpv;go_enter func19,ntmps19;go_wp2_with (at_builtin;go_must (refine B0 _ rfl (.tmp 27) (.tmp 31) 28 rfl 0 48 xg _ 2 16 underlying28 HI.out HZ.out xi.out xf.out rfl R3 pv0 Y.ps.length (Y.ps.flatMap cQ) rfl (by rw [<- xa.out];repeat (first | exact HP.out.row0 | refine World.ownsRow.alloc ?_ _ | refine World.ownsRow.drew ?_)) (some ⟨w.heap.size,0,none⟩) 1 1 [.pointer (some ⟨xb,0,none⟩),.pointer (some ⟨cb,0,none⟩)] rfl rfl (fun _=>⟨_,rfl,World.news_of_block (cs:=#[.pointer (some ⟨xb,0,none⟩),.pointer (some ⟨cb,0,none⟩)]) (t:=48) (fr:=(0,0)) (B1 R5)⟩) (by simp [Value.oneCell']) (by have:=HN.out;unfold maxLen;omega) (by have:=HN.out;omega) (Nat.zero_le _) ?_))
 intro v1 w1 hown1 hgrow1 hat1;obtain⟨g1,xh,xe,_,_⟩:=hown1.form R4;subst xe;obtain⟨q0,q1,q2,hJ⟩:=HP.out.join (U:=w.alloc (.cells #[.pointer (some ⟨xb,0,none⟩),.pointer (some ⟨cb,0,none⟩)] 48)) P8 (by rw [xa.out];exact hgrow1) (by rw [xa.out];intro g hgg;rcases hat1 g hgg with a | a;exact Or.inl a;exact Or.inr Q8) hown1
 rw[xa.out] at q0;have HJ:=hid hJ;clear hown1 hgrow1 hat1 hJ;go_wp2_with fail;go_ret;exact⟨rfl,_,HJ.out⟩
end
section
variable {Y:PlR} {w:World} {yb:Nat}
def iS (A:Int) (n:Nat):Nat:=((if A < 0 then -(A+1) else A) % (n:Int)).toNat
theorem a2Z (A:Int) {n:Nat} (h1:1<=n):iS A n < n:=by
 unfold iS;have l1:=Int.emod_nonneg (if A < 0 then -(A+1) else A) (b:=(n:Int)) R4;have l2:=Int.emod_lt_of_pos (if A < 0 then -(A+1) else A) (b:=(n:Int)) R4;omega
theorem tQ (A:Int) {n:Nat} (h1:1<=n):(iS A n:Int)=(if A < 0 then -(A+1) else A) % (n:Int):=by
 unfold iS;exact Int.toNat_of_nonneg (Int.emod_nonneg _ R4)
theorem a3a (A:Int) (n:Nat) (hA : -9223372036854775808<=A/\A<=9223372036854775807) (h1:1<=n) (hn:n<=1000000000) :
  Calls prog 36 #[.int .i64 A,.int .i64 n] w fun e w'=>e=.returned (.int .i64 (iS A n:Int))/\w'=w:=by
 have xa:¬(n:Int)=0:=by omega
 have xb:((n:Int) == 0)=false:=L2c.2 xa;by_cases h0:A < 0
 ·go_enter func36,ntmps36
  go_wp2_with fail;have e : -((A+1).tmod n)=(iS A n:Int):=by rw [tQ A h1,if_pos h0,<- Int.neg_tmod,Int.tmod_eq_emod_of_nonneg R4]
  rw[e];go_ret;exact⟨rfl,rfl⟩
 ·go_enter func36,ntmps36
  go_wp2_with fail;have e:A % (n:Int)=(iS A n:Int):=by rw [tQ A h1,if_neg R4]
  rw[e];go_ret;exact⟨rfl,rfl⟩
theorem I1.pairs (h:I1 w yb Y):∃a c,Y.psv=.slice a Y.ps.length c/\(0 < Y.ps.length->∃b,a=some ⟨b,0,none⟩/\b < w.heap.size/\∀(i:Nat) (p:Nat × Nat),Y.ps[i]?=some p->w.cell? ⟨b,i*2,none⟩=some (.pointer (some ⟨p.1,0,none⟩))/\w.cell? ⟨b,i*2+1,none⟩=some (.pointer (some ⟨p.2,0,none⟩))):=by
 have hr:=h.row0;rcases id hr.2 with ⟨e,h0⟩ | ⟨g,xa,xb,e,_,hg,h3,h4,h5,h6⟩
 ·exact ⟨none,0,by rw [e,h0],fun hp=>by omega⟩
 ·rw [e] at hr
  refine⟨_,xa,e,fun _=>⟨g,rfl,(L2b.1 hg).1,fun i p hp=>?_⟩⟩;have xc:=(L1a.1 hp).1;have hj:∀j u,j < 2->(cQ p)[j]?=some u->w.cell? ⟨g,i*2+j,none⟩=some u:=fun j u hj hu=>by
   rw[hr.cellAt _ R4,D6 (s:=2) (fun _=>rfl) hp hj];exact hu
  exact⟨hj 0 _ R3 rfl,hj 1 _ R3 rfl⟩
theorem a5Z {w0:N4} {P:A3} {N M i xb cb:Nat} (h:Lw w0 P w yb Y N M) (hi:Y.ps[i]?=some (xb,cb)) (hN:N<=9999990000) (hM:M<=900000000) (kd a b:Int) (k2:2<=kd) (k6:kd<=6) (fa la sa:Option Addr) (fn fc ln lc sn sc:Nat) :
  Calls prog 35 #[.pointer (some ⟨yb,0,none⟩),.agg #[.pointer (some ⟨xb,0,none⟩),.pointer (some ⟨cb,0,none⟩)],.agg #[.int .i64 kd,.int .i64 a,.int .i64 b,.slice fa fn fc,.slice la ln lc,.slice sa sn sc]] w fun e w'=>e=.returned (.bool true)/\∃P2 Y2,Lw w0 P2 w' yb Y2 (N+10000) (M+100)/\(Y2.ps=Y.ps/\Y2.psv=Y.psv):=by
 by_cases e:kd=2
 ·rw [e]
  refine (a6a h hi hN a b fa la sa fn fc ln lc sn sc).mono ?_;rintro e w' ⟨rfl,P2,hL⟩;exact⟨rfl,P2,Y,hL.mono (L1c _) R4,rfl,rfl⟩
 ·refine (a4J h hi R4 hM kd a b e R4 R4 R4 R4 fa la sa fn fc ln lc sn sc).mono ?_
  rintro e w' ⟨rfl,P2,Y2,hL,hq⟩;exact⟨rfl,P2,Y2,hL.mono R4 (L1c _),hq⟩
end
section
variable {M N yb:Nat} {P:A3} {Y:PlR} {w:World} {w0:N4}
theorem Lw.pairAt {pb pc n r xb cb:Nat} (h:Lw w0 P w yb Y N M) (hpv:Y.psv=.slice (some ⟨pb,0,none⟩) n pc) (hx:Y.ps[r]?=some (xb,cb)) :
  w.cell? ⟨yb,0,none⟩=some (.slice (some ⟨pb,0,none⟩) n pc)/\pb < w.heap.size/\w.cell? ⟨pb,r*2,none⟩=some (.pointer (some ⟨xb,0,none⟩))/\w.cell? ⟨pb,r*2+1,none⟩=some (.pointer (some ⟨cb,0,none⟩)):=by
 have hp:=h.play;obtain⟨a,c,e,hc⟩:=hp.pairs;have xc:=(L1a.1 hx).1;obtain⟨b,rfl,hb,xa⟩:=hc R4;rw[hpv] at e;simp only[Value.slice.injEq,Option.some.injEq,Addr.mk.injEq,and_true] at e;obtain⟨e1,e2,e3⟩:=e;subst e1;obtain⟨c1,c2⟩:=xa r (xb,cb) hx;exact⟨by rw [<- hpv];exact hp.c0,hb,c1,c2⟩
theorem a5p (h:Lw w0 P w yb Y N M) (hN:N<=9999990000) (hM:M<=900000000) (kd a b:Int) (ha : -9223372036854775808<=a/\a<=9223372036854775807) (k2:2<=kd) (k6:kd<=6) (fa la sa:Option Addr) (fn fc ln lc sn sc:Nat) :
  Calls prog 11 #[.pointer (some ⟨yb,0,none⟩),.agg #[.int .i64 kd,.int .i64 a,.int .i64 b,.slice fa fn fc,.slice la ln lc,.slice sa sn sc]] w fun e w'=>e=.returned (.bool true)/\∃P2 Y2,Lw w0 P2 w' yb Y2 (N+10000) (M+100):=by
 have hp:=h.play;obtain⟨pa,pc,xa,xf⟩:=hp.pairs;have c0:=hp.c0;have xr:=hp.me;have xn:yb < w.heap.size+1:=by omega
 rw[xa] at c0;have e1:¬kd=1:=by omega
 have xt:¬kd=10:=by omega
 have xp:¬kd=12:=by omega
 have b1:(kd == 1)=false:=L2c.2 e1;have xw:(kd == 10)=false:=L2c.2 xt;have yd:(kd == 12)=false:=L2c.2 xp;have l2:¬kd < 2:=by omega
 have xx:¬11 < kd:=by omega
 have ye:=h.nps;have HL:=hid h;by_cases h0:Y.ps.length=0
 ·rw [h0] at c0
  clear xf h hp xa;go_enter func11,ntmps11;go_wp2_with fail;go_ret;exact⟨rfl,P,Y,(HL.out.below P8).mono R4 R4⟩
 ·obtain ⟨pb,rfl,xz,xc⟩:=xf R4
  have hr:=a2Z a (n:=Y.ps.length) R4;have xl:Hid (∀U,Calls prog 36 #[.int .i64 a,.int .i64 (Y.ps.length:Int)] U fun e w'=>e=.returned (.int .i64 (iS a Y.ps.length:Int))/\w'=U):=hid fun U=>a3a a Y.ps.length ha R4 R4
  generalize iS a Y.ps.length=r at hr xl;obtain⟨⟨xb,cb⟩,hx⟩:∃p,Y.ps[r]?=some p:=⟨_,L1b hr⟩
  have HX:=hid hx;have yc:=hid xa;have xy:(r:Int) < (Y.ps.length:Int):=by omega
  have xo:¬(Y.ps.length:Int)=0:=by omega
  have ya:((Y.ps.length:Int) == 0)=false:=L2c.2 xo;have xe:Hid (Below w.heap.size w (w.alloc (Obj.cells #[.int .i64 kd,.int .i64 a,.int .i64 b,.slice fa fn fc,.slice la ln lc,.slice sa sn sc] 43))):=hid (Below.alloc (Below.refl _ _) (L1c _) _);have HG:Hid (∀i b,(P i).B b->¬b=w.heap.size):=hid fun i b hb e=>by have:=(P i).lt w (h.sep.F i) b hb;omega
  have HC:Hid (∀u,Below (w.alloc (Obj.cells #[.int .i64 kd,.int .i64 a,.int .i64 b,.slice fa fn fc,.slice la ln lc,.slice sa sn sc] 43)).heap.size (w.alloc (Obj.cells #[.int .i64 kd,.int .i64 a,.int .i64 b,.slice fa fn fc,.slice la ln lc,.slice sa sn sc] 43)) u->(u.cell? ⟨yb,0,none⟩=some (.slice (some ⟨pb,0,none⟩) Y.ps.length pc)/\u.cell? ⟨pb,r*2,none⟩=some (.pointer (some ⟨xb,0,none⟩))/\u.cell? ⟨pb,r*2+1,none⟩=some (.pointer (some ⟨cb,0,none⟩))/\u.cell? ⟨w.heap.size,0,none⟩=some (.int .i64 kd)/\u.cell? ⟨w.heap.size,1,none⟩=some (.int .i64 a)/\u.cell? ⟨w.heap.size,2,none⟩=some (.int .i64 b)/\u.cell? ⟨w.heap.size,3,none⟩=some (.slice fa fn fc)/\u.cell? ⟨w.heap.size,4,none⟩=some (.slice la ln lc)/\u.cell? ⟨w.heap.size,5,none⟩=some (.slice sa sn sc))):=hid fun u hu=>by
   obtain⟨q1,q2,q3,q4⟩:=h.pairAt xa hx;have hB:Below w.heap.size w u:=xe.out.trans (hu.mono R5);exact⟨keep hB xr q1,keep hB q2 q3,keep hB q2 q4,keep hu R5 Q9,keep hu R5 Q9,keep hu R5 Q9,keep hu R5 Q9,keep hu R5 Q9,keep hu R5 Q9⟩
  have xu:Hid (∀P2 Y2 w2,Lw (w0.more (w.alloc (Obj.cells #[.int .i64 kd,.int .i64 a,.int .i64 b,.slice fa fn fc,.slice la ln lc,.slice sa sn sc] 43)).drew (fun b=>b=w.heap.size)) P2 w2 yb Y2 (N+10000) (M+100)->Y2.ps=Y.ps->Y2.psv=Y.psv->Lw w0 P2 w2 yb Y2 (N+10000) (M+100)/\(w2.cell? ⟨yb,0,none⟩=some (.slice (some ⟨pb,0,none⟩) Y.ps.length pc)/\w2.cell? ⟨pb,r*2,none⟩=some (.pointer (some ⟨xb,0,none⟩))/\w2.cell? ⟨pb,r*2+1,none⟩=some (.pointer (some ⟨cb,0,none⟩))/\w2.cell? ⟨w.heap.size,0,none⟩=some (.int .i64 kd)/\w2.cell? ⟨w.heap.size,1,none⟩=some (.int .i64 a)/\w2.cell? ⟨w.heap.size,2,none⟩=some (.int .i64 b)/\w2.cell? ⟨w.heap.size,3,none⟩=some (.slice fa fn fc)/\w2.cell? ⟨w.heap.size,4,none⟩=some (.slice la ln lc)/\w2.cell? ⟨w.heap.size,5,none⟩=some (.slice sa sn sc))):=hid fun P2 Y2 w2 xd q1 q2=>by
   have xq:Lw w0 P (w.alloc (Obj.cells #[.int .i64 kd,.int .i64 a,.int .i64 b,.slice fa fn fc,.slice la ln lc,.slice sa sn sc] 43)).drew yb Y N M:=h.below (Below.drew xe.out);obtain⟨hL,hk⟩:=xq.less xd;obtain⟨y1,_,y3,y4⟩:=hL.pairAt (q2.trans xa) (by rw [q1];exact hx);have xg:=hk w.heap.size (by show _ < (w.alloc (Obj.cells #[.int .i64 kd,.int .i64 a,.int .i64 b,.slice fa fn fc,.slice la ln lc,.slice sa sn sc] 43)).heap.size;simp) rfl
   have cc:∀j,w2.cell? ⟨w.heap.size,j,none⟩=(w.alloc (Obj.cells #[.int .i64 kd,.int .i64 a,.int .i64 b,.slice fa fn fc,.slice la ln lc,.slice sa sn sc] 43)).drew.cell? ⟨w.heap.size,j,none⟩:=fun j=>L0b (a:=⟨w.heap.size,j,none⟩) xg
   exact⟨hL,y1,y3,y4,(cc 0).trans Q9,(cc 1).trans Q9,(cc 2).trans Q9,(cc 3).trans Q9,(cc 4).trans Q9,(cc 5).trans Q9⟩
  have xv:Hid (Lw (w0.more (w.alloc (Obj.cells #[.int .i64 kd,.int .i64 a,.int .i64 b,.slice fa fn fc,.slice la ln lc,.slice sa sn sc] 43)).drew (fun b=>b=w.heap.size)) P (w.alloc (Obj.cells #[.int .i64 kd,.int .i64 a,.int .i64 b,.slice fa fn fc,.slice la ln lc,.slice sa sn sc] 43)).drew yb Y N M):=hid ((h.below (Below.drew xe.out)).more _ HG.out);have HV:Hid (Below (w.alloc (Obj.cells #[.int .i64 kd,.int .i64 a,.int .i64 b,.slice fa fn fc,.slice la ln lc,.slice sa sn sc] 43)).heap.size (w.alloc (Obj.cells #[.int .i64 kd,.int .i64 a,.int .i64 b,.slice fa fn fc,.slice la ln lc,.slice sa sn sc] 43)) (w.alloc (Obj.cells #[.int .i64 kd,.int .i64 a,.int .i64 b,.slice fa fn fc,.slice la ln lc,.slice sa sn sc] 43)).drew):=hid (Below.drew (Below.refl _ _))
  clear xc h hp xa xf hx;go_enter func11,ntmps11;go_wp2_with fail;refine wp_region_held_drew (S:=fun u=>u.cell? ⟨yb,0,none⟩=some (.slice (some ⟨pb,0,none⟩) Y.ps.length pc)/\u.cell? ⟨pb,r*2,none⟩=some (.pointer (some ⟨xb,0,none⟩))/\u.cell? ⟨pb,r*2+1,none⟩=some (.pointer (some ⟨cb,0,none⟩))/\u.cell? ⟨w.heap.size,0,none⟩=some (.int .i64 kd)/\u.cell? ⟨w.heap.size,1,none⟩=some (.int .i64 a)/\u.cell? ⟨w.heap.size,2,none⟩=some (.int .i64 b)/\u.cell? ⟨w.heap.size,3,none⟩=some (.slice fa fn fc)/\u.cell? ⟨w.heap.size,4,none⟩=some (.slice la ln lc)/\u.cell? ⟨w.heap.size,5,none⟩=some (.slice sa sn sc)) Q7 (HC.out _ HV.out) (fun hHeld=>?_)
  refine TW 0 ⟨some 40,.move (.tmp 0),27,"law.go:161",#[],none⟩ ?_
  refine TW 1 ⟨some 41,.move (.tmp 0),27,"law.go:161",#[],none⟩ ?_
  refine TW 2 ⟨some 42,.nilCheck (.tmp 41),0,"law.go:161",#[⟨1,.data⟩],none⟩ ?_
  refine TW 3 ⟨some 43,.fieldAddr 37 (.tmp 42) 0,0,"law.go:161",#[⟨2,.data⟩],none⟩ ?_
  refine TW 4 ⟨some 44,.load 28 (.tmp 43),28,"law.go:161",#[⟨3,.data⟩],none⟩ ?_
  refine TW 5 ⟨some 45,.fieldAddr 43 (.tmp 3) 1,0,"law.go:161",#[],none⟩ ?_
  refine TW 6 ⟨some 46,.load 3 (.tmp 45),3,"law.go:161",#[⟨5,.data⟩],none⟩ ?_
  refine TW 7 ⟨some 47,.move (.tmp 0),27,"law.go:161",#[],none⟩ ?_
  refine TW 8 ⟨some 48,.nilCheck (.tmp 47),0,"law.go:161",#[⟨7,.data⟩],none⟩ ?_
  refine TW 9 ⟨some 49,.fieldAddr 37 (.tmp 48) 0,0,"law.go:161",#[⟨8,.data⟩],none⟩ ?_
  refine TW 10 ⟨some 50,.load 28 (.tmp 49),28,"law.go:161",#[⟨9,.data⟩],none⟩ ?_
  refine TW 11 ⟨some 51,.call ⟨.builtin .len,#[.tmp 50],#[28]⟩,3,"law.go:161",#[⟨10,.data⟩],none⟩ ?_
  refine TW 15 ⟨some 55,.load 43 (.tmp 3),43,"law.go:161",#[],none⟩ ?_
  clear hHeld
  refine TO 12 ⟨some 52,.call ⟨.value (.func 36),#[.tmp 46,.tmp 51],#[3,3]⟩,3,"law.go:161",#[⟨6,.data⟩,⟨11,.data⟩],none⟩ fun K hK => ?_
  go_simp
  go_at_call 36
  refine (xl.out _).mono ?_;rintro e w1 ⟨rfl,hw⟩;rw[hw];clear hw w1
  dsimp only
  refine TG hK (HC.out _ HV.out) fun hHeld=>?_
  clear hK K
  refine TW 13 ⟨some 53,.indexAddr 28 (.tmp 44) (.tmp 52),0,"law.go:161",#[⟨4,.data⟩,⟨12,.data⟩],none⟩ ?_
  refine TW 14 ⟨some 54,.load 48 (.tmp 53),48,"law.go:161",#[⟨13,.data⟩],none⟩ ?_
  clear hHeld
  refine TO 16 ⟨some 56,.call ⟨.value (.func 35),#[.tmp 40,.tmp 54,.tmp 55],#[27,48,43]⟩,4,"law.go:161",#[⟨0,.data⟩,⟨14,.data⟩,⟨15,.data⟩,⟨12,.chain⟩],none⟩ fun K hK => ?_
  go_simp
  go_at_call 35
  refine (a5Z xv.out HX.out hN hM kd a b k2 k6 fa la sa fn fc ln lc sn sc).mono ?_;rintro e w2 ⟨rfl,P2,Y2,xd,xj,xk⟩;obtain⟨xi,xh⟩:=xu.out P2 Y2 w2 xd xj xk;have xs:=hid xi;have xm:=hid xh;clear xd xj xk xi xh
  dsimp only
  refine TG hK xm.out fun hHeld=>?_
  clear hK K
  refine TW 17 ⟨some 4,.assign (.tmp 56),4,"law.go:161",#[⟨16,.data⟩,⟨16,.chain⟩,⟨0,.phase⟩,⟨1,.phase⟩,⟨2,.phase⟩,⟨3,.phase⟩,⟨4,.phase⟩,⟨5,.phase⟩,⟨6,.phase⟩,⟨7,.phase⟩,⟨8,.phase⟩,⟨9,.phase⟩,⟨10,.phase⟩,⟨11,.phase⟩,⟨12,.phase⟩,⟨13,.phase⟩,⟨14,.phase⟩,⟨15,.phase⟩,⟨16,.phase⟩],none⟩ ?_
  clear hHeld;refine wpAnyH_done Q7 ?_ _;go_wp2_with fail;go_ret;exact⟨rfl,P2,Y2,xs.out⟩
end
def Y8 (g:PgR) (Bk C:Nat->Nat) (cb cc:Nat):PgR :=
 { a:=some ⟨cb,0,none⟩,n:=g.n,c:=cc,b:=cb,o:=0,f:=fun i=>{ p:=(g.f i).p,l:=(g.f i).l,a:=some ⟨Bk i,0,none⟩,n:=(g.f i).n,c:=C i,b:=Bk i,o:=0,op:=(g.f i).op,ar:=(g.f i).ar } }
theorem zA {B:Nat} {w:World} {g:PgR} {Bk C:Nat->Nat} {cb cc:Nat} (hn:g.n<=1152921504606846976) (hf:∀i,i < g.n->(g.f i).n<=1152921504606846976) (h:bZ B w g Bk C cb cc):I7 w.heap.size w (Y8 g Bk C cb cc):=by
 obtain⟨F,xb,xf,hF,_⟩:=zF h;refine⟨hn,fun _=>⟨rfl,xb.lt,fun i hi=>?_⟩,fun i hi=>⟨hf i hi,fun _=>?_⟩⟩
 ·have xe:i < g.n:=hi
  obtain⟨h1,h2,h3⟩:=hF i xe;show w.cell? ⟨cb,0+i*3,none⟩=some (.int .i64 (g.f i).p)/\w.cell? ⟨cb,0+i*3+1,none⟩=some (.int .i64 (g.f i).l)/\w.cell? ⟨cb,0+i*3+2,none⟩=some (.slice (some ⟨Bk i,0,none⟩) (g.f i).n (C i));rw[Nat.zero_add,xb.cell R4,xb.cell R4,xb.cell R4,h1,h2,h3];exact⟨rfl,rfl,rfl⟩
 ·obtain ⟨F',xa,xd,xg⟩:=sG (h.2.1 i hi)
  refine⟨rfl,xa.lt,fun j hj=>?_⟩;have xc:j < (g.f i).n:=hj;obtain⟨h1,h2⟩:=xg j R4;show w.cell? ⟨Bk i,0+j*2,none⟩=some (.int .i64 ((g.f i).op j))/\w.cell? ⟨Bk i,0+j*2+1,none⟩=some (.int .i64 ((g.f i).ar j));rw[Nat.zero_add,xa.cell R4,xa.cell R4,h1,h2];unfold cC cB;rw[if_pos xc,if_pos xc];exact⟨rfl,rfl⟩
section
variable {Bk C:Nat->Nat} {M N cap cb cc yb:Nat} {P:A3} {R:McR} {Y:PlR} {cv lv:Value} {g g1 g2:PgR} {w:World} {w0:N4}
theorem uY (g:PgR) (w:World) (hg:I7 w.heap.size w g):∃x a,I8 g x a:=by
 obtain⟨e,w',fr,⟨x,a,_,hx,_⟩,_⟩:=(dF g w hg) [];exact⟨x,a,hx⟩
theorem a3v (h1:Y6 (Y8 g Bk C cb cc) g1) (h2:Y6 g g2):Y6 g1 g2:=by
 have n1:g1.n=g.n:=h1.1;refine⟨h2.1.trans n1.symm,fun j hj=>?_⟩;rw[n1] at hj;obtain⟨a1,a2,a3,a4,a5⟩:=h1.2 j hj;obtain⟨b1,b2,b3,b4,b5⟩:=h2.2 j hj;exact⟨b1.trans a1.symm,b2.trans a2.symm,b3.trans a3.symm,b4.trans a4.symm,b5.trans a5.symm⟩
theorem xA (hck:I8 g 0 0) (h1:1<=cap) (h40:cap<=40) (hs1:Y6 (Y8 g Bk C cb cc) g1) (hs2:Y6 g g2) (hb:rM (Y8 g Bk C cb cc) cap R) :
  ∃t,Is g1 t R/\C4 g1 t/\R8 g1/\Y6 g1 g2/\RV g2 (gE cap cv lv (g.f 0).l.toNat) t:=by
 have xa:R8 (Y8 g Bk C cb cc):=a4Q (show I8 (Y8 g Bk C cb cc) 0 0 from hck);have xc:=hs1.pgOk xa;have xb:=a3v hs1 hs2;obtain⟨e,hn⟩:=a2a hb;have hi:C4 g1 ⟨0,[],[⟨0,0,List.replicate (g.f 0).l.toNat (0,0),[]⟩],List.replicate cap (0,[]),[]⟩:=hs1.inv xa (a0C xa h1 h40);refine⟨⟨0,[],[⟨0,0,List.replicate (g.f 0).l.toNat (0,0),[]⟩],List.replicate cap (0,[]),[]⟩,⟨e,hn⟩,hi,xc,xb,⟨D4.begin 0 _ cap,xb.inv xc hi,L8.nil,by show cap=(List.replicate cap ((0,[]):Ob)).length;rw [List.length_replicate]⟩⟩
theorem Lw.open {w1 w2 w3 w4:World} {mb rb B B2:Nat} {own own':Own} (h:Lw w0 P w yb Y N M)
  (hck:I8 g 0 0) (h1:1<=cap) (h40:cap<=40) (hb1:Below w.heap.size w w1) (hB:w.heap.size<=B) (hB2:B2<=w1.heap.size)
  (hM:A4 w2 own mb g1 R) (hbg:rM (Y8 g Bk C cb cc) cap R) (hs1:Y6 (Y8 g Bk C cb cc) g1) (hb2:Below w1.heap.size w1 w2) (ho1:∀k t,own k=some t->w1.heap.size<=k) (hg1:∀k,g1.blk k->w1.heap.size<=k)
  (hR:A8 w3 own' rb g2 (gE cap cv lv (g.f 0).l.toNat)) (hs2:Y6 g g2) (hb3:Below w2.heap.size w2 w3) (ho2:∀k t,own' k=some t->w2.heap.size<=k) (hg2:∀k,g2.blk k->w2.heap.size<=k)
  (hb4:But (fun k=>B<=k/\k < B2) w3 w4) :
  ∃P2,Lw w0 P2 w4 yb Y N M/\jF P2 Y.ps.length mb rb N:=by
 have s1:=hb1.size;have s2:=hb2.size;have s3:=hb3.size;have s4:=hb4.size;have xh:=h.sep.pos;have xb:Below w.heap.size w w3:=(hb1.trans (hb2.mono s1)).trans (hb3.mono (Nat.le_trans s1 s2));have xa:Below w.heap.size w w4:=⟨hb4.os.trans xb.os,hb4.tape.trans xb.tape,hb4.output.trans xb.output,Nat.le_trans xb.size s4,fun b hb=>(hb4.block b R4 R4).trans (xb.block b hb)⟩;have xc:A4 w4 own mb g1 R:=hM.beside R4 fun k hk hq=>by
  refine (hb4.block k R4 ?_).trans (hb3.block k hk);rcases hq with hq | hq | hq
  ·cases e:own k with
   | none=>exact (hq e).elim
   | some t=>have:=ho1 k t e;omega
  ·have:=hg1 k hq;omega
  ·omega
 have xd:A8 w4 own' rb g2 (gE cap cv lv (g.f 0).l.toNat):=hR.aside s4 (fun k t e=>hb4.block k (hR.lt k t e) (by have:=ho2 k t e;omega)) (fun k _ hq=>by
  rcases hq with hq | hq | ⟨o,hq⟩
  ·exact hb4.block k (hR.pg.blk_lt hq) (by have:=hg2 k hq;omega)
  ·exact hb4.block k R4 R4
  ·cases hq)
 have bm:∀k,(cN own mb g1 R).B k->w1.heap.size<=k/\k < w2.heap.size:=fun k hk=>⟨by
  rcases hk with hk | hk
  ·cases e:own k with
   | none=>exact (hk e).elim
   | some t=>exact ho1 k t e
  ·exact hg1 k hk,(cN own mb g1 R).lt w2 hM k hk⟩
 have br:∀k,(nR own' rb g2 (gE cap cv lv (g.f 0).l.toNat)).B k->w2.heap.size<=k:=fun k hk=>by
  rcases hk with hk | hk | ⟨o,hk⟩
  ·cases e:own' k with
   | none=>exact (hk e).elim
   | some t=>exact ho2 k t e
  ·exact hg2 k hk
  ·cases hk
 have xe:Sep (P.put (1,Y.ps.length) (cN own mb g1 R)) w4:=h.sep.upd _ _ xa.size (fun k hk _=>xa.block k hk) xc fun k hk=>Or.inr (by have:=(bm k hk).1;omega)
 have xf:Sep ((P.put (1,Y.ps.length) (cN own mb g1 R)).put (2,Y.ps.length) (nR own' rb g2 (gE cap cv lv (g.f 0).l.toNat))) w4:=by
  refine xe.fresh _ _ xd (fun e=>by have:=br 0 e;omega) fun k hk j hj hq=>?_
  have:=br k hk;by_cases e:j=(1,Y.ps.length)
  ·rw [e,A3.put_same] at hq
   have:=(bm k hq).2;omega
  ·rw [A3.put_ne _ e] at hq
   have:=(P j).lt w (h.sep.F j) k hq;omega
 have hT:Stp P w ((P.put (1,Y.ps.length) (cN own mb g1 R)).put (2,Y.ps.length) (nR own' rb g2 (gE cap cv lv (g.f 0).l.toNat))) w4:=⟨xa.os,xa.tape,xa.output,xa.size,fun b hb _=>xa.block b hb,fun j b hb=>by
  by_cases e:j=(2,Y.ps.length)
  ·rw [e,A3.put_same] at hb
   exact Or.inr (by have:=br b hb;omega)
  ·rw [A3.put_ne _ e] at hb
   by_cases e':j=(1,Y.ps.length)
   ·rw [e',A3.put_same] at hb
    exact Or.inr (by have:=(bm b hb).1;omega)
   ·rw [A3.put_ne _ e'] at hb
    exact Or.inl ⟨j,hb⟩⟩
 obtain⟨hb,xg⟩:=bD h.bel h.lo hT;obtain⟨t,t1,t2,t3,t4,t5⟩:=xA (cv:=cv) (lv:=lv) hck h1 h40 hs1 hs2 hbg;refine⟨_,⟨xf,?_,⟨h.law.1,fun j i nb j1 j5 hq=>?_⟩,fun i p hp=>?_,h.len,h.nps,hb,xg⟩,⟨own,g1,R,own',g2,_,t,?_,A3.put_same _ _ _,t1,t2,t3,t4,t5,Nat.zero_le _⟩⟩
 ·rw [A3.put_ne _ (J7 R3 _ _),A3.put_ne _ (J7 R3 _ _)];exact h.p0
 ·rw [A3.put_ne _ (J7 R4 _ _),A3.put_ne _ (J7 R4 _ _)]
  exact h.law.2 j i nb j1 j5 hq
 ·have xi:=(L1a.1 hp).1
  obtain⟨ox,gx,RX,oc,gc,RC,t,q1,q2,q3⟩:=(h.pair i p hp).ex;have n1:((1,i):Nat × Nat)≠(1,Y.ps.length):=fun e'=>by simp only [Prod.mk.injEq] at e';omega
  have n2:((2,i):Nat × Nat)≠(2,Y.ps.length):=fun e'=>by simp only [Prod.mk.injEq] at e';omega
  refine⟨ox,gx,RX,oc,gc,RC,t,?_,?_,q3⟩
  ·rw [A3.put_ne _ (J7 R3 _ _),A3.put_ne _ n1];exact q1
  ·rw [A3.put_ne _ n2,A3.put_ne _ (J7 R3 _ _)];exact q2
 ·rw [A3.put_ne _ (J7 R3 _ _),A3.put_same]
theorem Lw.join {w':World} {xb:Nat} {pv:Value} (h:Lw w0 P w yb Y N M) (hp:jF P Y.ps.length xb cb N) (hP:I1 w' yb (Y.join (xb,cb) pv)) (hk:∀k,k < w.heap.size->¬Q0 yb Y k->w'.heap[k]?=w.heap[k]?) (hB:∀k,Q0 yb (Y.join (xb,cb) pv) k->Q0 yb Y k\/w.heap.size<=k) (hs:w.heap.size<=w'.heap.size) (e1:w'.os=w.os) (e2:w'.tape=w.tape) (e3:w'.output=w.output) :
  ∃P2,Lw w0 P2 w' yb (Y.join (xb,cb) pv) N (M+1):=by
 have xd:∀b,(P (0,0)).B b↔Q0 yb Y b:=fun b=>by rw [h.p0];exact Iff.rfl
 have k1:∀k,k < w.heap.size->¬(P (0,0)).B k->w'.heap[k]?=w.heap[k]?:=fun k hk' hn=>hk k hk' (by rw [<- xd];exact hn)
 have k2:∀k,(I2 yb (Y.join (xb,cb) pv)).B k->(P (0,0)).B k\/w.heap.size<=k:=fun k hk'=>by rw [xd];exact hB k hk'
 have hS:=h.sep.upd (0,0) (I2 yb (Y.join (xb,cb) pv)) hs k1 hP k2;have hT:=Stp.one (P:=P) (0,0) (I2 yb (Y.join (xb,cb) pv)) e1 e2 e3 hs k1 k2;obtain⟨hb,xf⟩:=bD h.bel h.lo hT;refine⟨_,⟨hS,A3.put_same _ _ _,⟨h.law.1,fun j i nb j1 j5 hq=>?_⟩,fun i p hq=>?_,fun j=>Nat.le_succ_of_le (h.len j),?_,hb,xf⟩⟩
 ·rw [A3.put_ne _ (J7 R4 _ _)]
  exact h.law.2 j i nb j1 j5 hq
 ·have xa:(Y.ps++[(xb,cb)])[i]?=some p:=hq
  have xe:jF P i p.1 p.2 N:=by
   by_cases e:i < Y.ps.length
   ·rw [List.getElem?_append_left e] at xa
    exact h.pair i p xa
   ·have xc:=(L1a.1 xa).1
    rw[List.length_append] at xc;have e2:i=Y.ps.length:=by simp at xc;omega
    subst e2;rw[List.getElem?_append_right (L1c _)] at xa;simp at xa;rw[<- xa];exact hp
  obtain⟨ox,gx,RX,oc,gc,RC,t,q1,q2,q3⟩:=xe.ex;exact⟨ox,gx,RX,oc,gc,RC,t,by rw [A3.put_ne _ (J7 R3 _ _)];exact q1,by rw [A3.put_ne _ (J7 R3 _ _)];exact q2,q3⟩
 ·show (Y.ps++[(xb,cb)]).length<=M+1
  rw[List.length_append];exact Nat.succ_le_succ h.nps
end
section
variable {B M N cb cc yb:Nat} {Bk C:Nat->Nat} {P:A3} {U w:World} {Y:PlR} {g:PgR} {w0:N4}
structure a6E (g:PgR) (w:World):Prop where
 lent:∀U,Below w.heap.size w U->Calls prog 54 #[.agg #[.slice g.a g.n g.c]] U fun e w'=>rS g U e w'
 ret:∀U B B2 Bk C cb cc,Below w.heap.size w U->w.heap.size<=B->B<=U.heap.size->bZ B U g Bk C cb cc->B2<=U.heap.size->(cb < B2/\∀j,j < g.n->Bk j < B2)->Calls prog 57 #[.agg #[.slice (some ⟨cb,0,none⟩) g.n cc],.agg #[.slice g.a g.n g.c]] U fun e w'=>e=.returned (.bool true)/\But (fun k=>B<=k/\k < B2) U w'
theorem a5z (hg:I7 w.heap.size w g) (hr:gV g):a6E g w :=
 ⟨fun U hU=>a2O g U ((hg.below hU).mono hU.size) hr,fun U B B2 Bk C cb cc hU hB hBU hc hB2 hc2=>nT B B2 g Bk C cb cc U hBU ((hg.below hU).mono hB) hr hc hB2 hc2⟩
theorem bZ.below {B:Nat} {w w':World} {g:PgR} {Bk C:Nat->Nat} {cb cc:Nat} (h:bZ B w g Bk C cb cc) (hb:Below w.heap.size w w'):bZ B w' g Bk C cb cc :=
 ⟨L3 h.1 (hb.block _ (J6 h.1).2.1),fun j hj=>L3 (h.2.1 j hj) (hb.block _ (J6 (h.2.1 j hj)).2.1),h.2.2⟩
theorem oQ {w1:World} {q:Nat} (hq:U.heap.size=q) (h1:w1.ownsRow U.heap.size 163 3 (.slice (some ⟨cb,0,none⟩) (g.n+1) cc) (g.n+1) (E3 g Bk C g.n++[.int .i64 (-7070),.int .i64 0,.slice none 0 0])) (h2:∀j,j < g.n->U8 U.heap.size w1 (g.f j) (Bk j) (C j)) (h3:∀i j,i < g.n->j < g.n->Bk i=Bk j->i=j):bZ q w1 g Bk C cb cc:=by
 subst hq;exact⟨h1,h2,h3⟩
theorem zB (h:bZ B w g Bk C cb cc):cb < w.heap.size/\∀j,j < g.n->Bk j < w.heap.size :=
 ⟨(J6 h.1).2.1,fun j hj=>(J6 (h.2.1 j hj)).2.1⟩
theorem But.from {w':World} {B2:Nat} (h:But (fun k=>B<=k/\k < B2) U w') (hU:Below w.heap.size w U) (hB:w.heap.size<=B):Below w.heap.size w w' :=
 ⟨h.os.trans hU.os,h.tape.trans hU.tape,h.output.trans hU.output,Nat.le_trans hU.size h.size,fun b hb=>(h.block b (L0a hb hU.size) R4).trans (hU.block b hb)⟩
theorem wY (h:Lw w0 P w yb Y N M) (g:PgR) (hg:I7 w.heap.size w g) (hr:gV g) (ht:Tab w) (kd a cap x:Int) (hx:kZ g cap x) (la sa:Option Addr) (ln lc sn sc:Nat) :
  Calls prog 33 #[.pointer (some ⟨yb,0,none⟩),.agg #[.int .i64 kd,.int .i64 a,.int .i64 cap,.slice g.a g.n g.c,.slice la ln lc,.slice sa sn sc]] w fun e w'=>e=.returned (.bool true)/\∃P2 Y2,Lw w0 P2 w' yb Y2 N (M+1):=by
 have HO:=hid (a5z hg hr);have HN:Hid (∀U B Bk C cb cc,Below w.heap.size w U->bZ B U g Bk C cb cc->Calls prog 55 #[.agg #[.slice (some ⟨cb,0,none⟩) g.n cc],.int .i64 cap] U fun e w'=>e=.returned (.tuple #[.pointer none,.int .i64 x])/\Below U.heap.size U w'):=hid fun U B Bk C cb cc hU hc=>a4n (Y8 g Bk C cb cc) U (zA hg.1 (fun i hi=>(hg.2.2 i hi).1) hc) (ht.held hU.size (hU.block 0 ht.1)) cap x hx
 have HR:Hid (∀U,Below w.heap.size w U->Calls prog 56 #[.agg #[.slice g.a g.n g.c],.int .i64 cap] U fun e w'=>e=.returned (.tuple #[.pointer none,.int .i64 x])/\Below U.heap.size U w'):=hid fun U hU=>a3j g U ((hg.below hU).mono hU.size) cap x hx
 have HL:=hid h;clear h hg hr ht hx;go_enter func33,ntmps33;go_wp2_with (first
  | (go_at_call 54;refine (HO.out.lent _ P8).mono ?_;rintro e w1 ⟨Bk,C,cb,cc,rfl,xm,xk,xl,xd⟩;have c2:w1.cell? ⟨w.heap.size,2,none⟩=some (.int .i64 cap):=keep xd R5 Q9;have c3:w1.cell? ⟨w.heap.size,3,none⟩=some (.slice g.a g.n g.c):=keep xd R5 Q9;have hz:w.heap.size < w1.heap.size:=(by have:=xd.size;simp at this;omega);have xf:Hid (bZ (w.heap.size+1) w1 g Bk C cb cc):=hid (oQ R5 xm xk xl);have xa:Hid (Below w.heap.size w w1):=hid ((Below.alloc (Below.refl _ _) (L1c _) _:Below w.heap.size w _).trans (xd.mono R5));clear xm xk xl xd)
  | (go_at_call 55;have xb:Below w1.heap.size w1 (w1.alloc (.cells #[.slice (some ⟨cb,0,none⟩) g.n cc] 41)):=Below.alloc (Below.refl _ _) (L1c _) _;refine (HN.out _ _ Bk C cb cc (xa.out.trans (xb.mono xa.out.size)) (xf.out.below xb)).mono ?_;rintro e w2 ⟨rfl,xc⟩;have d2:w2.cell? ⟨w.heap.size,2,none⟩=some (.int .i64 cap):=keep xc Q8 (keep xb hz c2);have d3:w2.cell? ⟨w.heap.size,3,none⟩=some (.slice g.a g.n g.c):=keep xc Q8 (keep xb hz c3);have d0:w2.cell? ⟨w1.heap.size,0,none⟩=some (.slice (some ⟨cb,0,none⟩) g.n cc):=keep xc R5 Q9;have xg:Hid (Below w1.heap.size w1 w2):=hid (xb.trans (xc.mono xb.size));have xp:w1.heap.size < w2.heap.size:=(by have:=xc.size;simp at this;omega);have xh:w.heap.size < w2.heap.size:=R4;clear xc xb c2 c3)
  | (go_at_call 56;refine (HR.out _ (xa.out.trans (xg.out.mono xa.out.size))).mono ?_;rintro e w3 ⟨rfl,xe⟩;have e3:w3.cell? ⟨w.heap.size,3,none⟩=some (.slice g.a g.n g.c):=keep xe xh d3;have e0:w3.cell? ⟨w1.heap.size,0,none⟩=some (.slice (some ⟨cb,0,none⟩) g.n cc):=keep xe xp d0;have xi:Hid (Below w1.heap.size w1 w3):=hid (xg.out.trans (xe.mono xg.out.size));have xq:w1.heap.size < w3.heap.size:=(by have:=xe.size;omega);have xo:w.heap.size < w3.heap.size:=R4;clear xe d0 d2 d3)
  | (go_at_call 57;refine (HO.out.ret _ _ w1.heap.size Bk C cb cc (xa.out.trans (xi.out.mono xa.out.size)) R4 R4 (xf.out.below xi.out) R4 (zB xf.out)).mono ?_;rintro e w4 ⟨rfl,xj⟩;have xn:Hid (Below w.heap.size w w4):=hid (xj.from (xa.out.trans (xi.out.mono xa.out.size)) R4);clear xj e0 e3)
  | (go_at_call 19;refine (wE x).mono ?_;rintro e w5 ⟨rfl,hw⟩;rw [hw];clear hw w5))
 go_ret;exact⟨rfl,P,Y,(HL.out.below xn.out).mono (L1c _) R4⟩
theorem a0R (h:Lw w0 P w yb Y N M) (hM:M<=900000000) (g:PgR) (hg:I7 w.heap.size w g) (hr:gV g) (ht:Tab w) (kd a:Int) (cap:Nat) (hck:I8 g 0 0) (h1:1<=cap) (h40:cap<=40) (la sa:Option Addr) (ln lc sn sc:Nat) :
  Calls prog 33 #[.pointer (some ⟨yb,0,none⟩),.agg #[.int .i64 kd,.int .i64 a,.int .i64 (cap:Int),.slice g.a g.n g.c,.slice la ln lc,.slice sa sn sc]] w fun e w'=>e=.returned (.bool true)/\∃P2 Y2,Lw w0 P2 w' yb Y2 N (M+1):=by
 have HO:=hid (a5z hg hr);have HN:Hid (∀U B Bk C cb cc,Below w.heap.size w U->bZ B U g Bk C cb cc->Calls prog 55 #[.agg #[.slice (some ⟨cb,0,none⟩) g.n cc],.int .i64 (cap:Int)] U fun e w'=>gR (Y8 g Bk C cb cc) cap U e w'):=hid fun U B Bk C cb cc hU hc=>a1V (Y8 g Bk C cb cc) U (zA hg.1 (fun i hi=>(hg.2.2 i hi).1) hc) (ht.held hU.size (hU.block 0 ht.1)) hck cap h1 h40
 have HR:Hid (∀U,Below w.heap.size w U->Calls prog 56 #[.agg #[.slice g.a g.n g.c],.int .i64 (cap:Int)] U fun e w'=>gU g cap U e w'):=hid fun U hU=>a3i g U ((hg.below hU).mono hU.size) (L0a ht.1 hU.size) hck cap h1 h40
 have HL:=hid h;have ye:=hid hck;have HM:=hid hM;clear h hg hr ht hck hM;go_enter func33,ntmps33;go_wp2_with (first
  | (go_at_call 54;refine (HO.out.lent _ P8).mono ?_;rintro e w1 ⟨Bk,C,cb,cc,rfl,xs,xp,xv,xg⟩;have c2:w1.cell? ⟨w.heap.size,2,none⟩=some (.int .i64 (cap:Int)):=keep xg R5 Q9;have c3:w1.cell? ⟨w.heap.size,3,none⟩=some (.slice g.a g.n g.c):=keep xg R5 Q9;have hz:w.heap.size < w1.heap.size:=(by have:=xg.size;simp at this;omega);have xh:Hid (bZ (w.heap.size+1) w1 g Bk C cb cc):=hid (oQ R5 xs xp xv);have xc:Hid (Below w.heap.size w w1):=hid ((Below.alloc (Below.refl _ _) (L1c _) _:Below w.heap.size w _).trans (xg.mono R5));clear xs xp xv xg)
  | (go_at_call 55;have xd:Below w1.heap.size w1 (w1.alloc (.cells #[.slice (some ⟨cb,0,none⟩) g.n cc] 41)):=Below.alloc (Below.refl _ _) (L1c _) _;refine (HN.out _ _ Bk C cb cc (xc.out.trans (xd.mono xc.out.size)) (xh.out.below xd)).mono ?_;rintro e w2 ⟨own,mb,g1,R,rfl,hm,xm,xa,xb,xw,xr⟩;have d2:w2.cell? ⟨w.heap.size,2,none⟩=some (.int .i64 (cap:Int)):=keep xb Q8 (keep xd hz c2);have d3:w2.cell? ⟨w.heap.size,3,none⟩=some (.slice g.a g.n g.c):=keep xb Q8 (keep xd hz c3);have d0:w2.cell? ⟨w1.heap.size,0,none⟩=some (.slice (some ⟨cb,0,none⟩) g.n cc):=keep xb R5 Q9;have xi:Hid (Below w1.heap.size w1 w2):=hid (xd.trans (xb.mono xd.size));have xy:Hid (A4 w2 own mb g1 R/\rM (Y8 g Bk C cb cc) cap R/\Y6 (Y8 g Bk C cb cc) g1/\Below (w1.alloc (.cells #[.slice (some ⟨cb,0,none⟩) g.n cc] 41)).heap.size (w1.alloc (.cells #[.slice (some ⟨cb,0,none⟩) g.n cc] 41)) w2/\(∀k t,own k=some t->(w1.alloc (.cells #[.slice (some ⟨cb,0,none⟩) g.n cc] 41)).heap.size<=k)/\∀k,g1.blk k->(w1.alloc (.cells #[.slice (some ⟨cb,0,none⟩) g.n cc] 41)).heap.size<=k):=hid ⟨hm,xm,xa,xb,xw,xr⟩;have yd:w1.heap.size < w2.heap.size:=(by have:=xb.size;simp at this;omega);have xj:w.heap.size < w2.heap.size:=R4;clear hm xm xa xb xw xr xd c2 c3)
  | (go_at_call 56;refine (HR.out _ (xc.out.trans (xi.out.mono xc.out.size))).mono ?_;rintro e w3 ⟨xf,rb,g2,cv,lv,rfl,hR,xt,xe,xq,xl⟩;have e3:w3.cell? ⟨w.heap.size,3,none⟩=some (.slice g.a g.n g.c):=keep xe xj d3;have e0:w3.cell? ⟨w1.heap.size,0,none⟩=some (.slice (some ⟨cb,0,none⟩) g.n cc):=keep xe yd d0;have xo:Hid (Below w1.heap.size w1 w3):=hid (xi.out.trans (xe.mono xi.out.size));have yc:Hid (A8 w3 xf rb g2 (gE cap cv lv (g.f 0).l.toNat)/\Y6 g g2/\Below w2.heap.size w2 w3/\(∀k t,xf k=some t->w2.heap.size<=k)/\∀k,g2.blk k->w2.heap.size<=k):=hid ⟨hR,xt,xe,xq,xl⟩;have yf:w1.heap.size < w3.heap.size:=(by have:=xe.size;omega);have xz:w.heap.size < w3.heap.size:=R4;clear hR xt xe xq xl d0 d2 d3)
  | (go_at_call 57;refine (HO.out.ret _ _ w1.heap.size Bk C cb cc (xc.out.trans (xo.out.mono xc.out.size)) R4 R4 (xh.out.below xo.out) R4 (zB xh.out)).mono ?_;rintro e w4 ⟨rfl,xn⟩;obtain ⟨n1,n2,n3,n4,n5,n6⟩:=xy.out;obtain ⟨r1,r2,r3,r4,r5⟩:=yc.out;obtain ⟨P2,xu,xx⟩:=HL.out.open (w1:=(w1.alloc (.cells #[.slice (some ⟨cb,0,none⟩) g.n cc] 41))) ye.out h1 h40 (Below.alloc xc.out R4 _) (Nat.le_succ _) R5 n1 n2 n3 n4 n5 n6 r1 r2 r3 r4 r5 xn;have xk:=hid xu;have ya:=hid xx;clear n1 n2 n3 n4 n5 n6 r1 r2 r3 r4 r5 xu xx xn e0 e3)
  | (go_at_call 19;refine (wD xk.out.play (by have:=xk.out.nps;have:=HM.out;omega) 0).mono ?_;rintro e w5 ⟨rfl,pv,j1,j2,j3,j4,j5,j6,j7⟩;have HW:=hid (xk.out.join ya.out j1 j2 j3 j4 j5 j6 j7);clear j1 j2 j3 j4 j5 j6 j7))
 go_ret;obtain⟨P3,hW⟩:=HW.out;exact⟨rfl,P3,_,hW⟩
theorem wX (h:Lw w0 P w yb Y N M) (hM:M<=900000000) (g:PgR) (hg:I7 w.heap.size w g) (hr:gV g) (ht:Tab w) (kd a cap:Int) (la sa:Option Addr) (ln lc sn sc:Nat) :
  Calls prog 33 #[.pointer (some ⟨yb,0,none⟩),.agg #[.int .i64 kd,.int .i64 a,.int .i64 cap,.slice g.a g.n g.c,.slice la ln lc,.slice sa sn sc]] w fun e w'=>e=.returned (.bool true)/\∃P2 Y2,Lw w0 P2 w' yb Y2 N (M+1):=by
 obtain⟨x,b,hx⟩:=uY g w hg;rcases a0L g cap hx with ⟨x,hx⟩ | ⟨xa,h1,xb⟩
 ·exact wY h g hg hr ht kd a cap x hx la sa ln lc sn sc
 ·obtain ⟨n,rfl⟩:=Int.eq_ofNat_of_zero_le (show 0<=cap by omega)
  exact a0R h hM g hg hr ht kd a n xa R4 R4 la sa ln lc sn sc
end
section
variable {M N yb:Nat} {P:A3} {Y:PlR} {w:World} {w0:N4}
theorem a1E (h:Lw w0 P w yb Y N M) (hM:M<=900000000) (g:PgR) (hg:I7 w.heap.size w g) (hr:gV g) (ht:Tab w) (a b:Int) (la sa:Option Addr) (ln lc sn sc:Nat) :
  Calls prog 11 #[.pointer (some ⟨yb,0,none⟩),.agg #[.int .i64 1,.int .i64 a,.int .i64 b,.slice g.a g.n g.c,.slice la ln lc,.slice sa sn sc]] w fun e w'=>e=.returned (.bool true)/\∃P2 Y2,Lw w0 P2 w' yb Y2 N (M+1):=by
 have HO:Hid (∀U,Below w.heap.size w U->Calls prog 33 #[.pointer (some ⟨yb,0,none⟩),.agg #[.int .i64 1,.int .i64 a,.int .i64 b,.slice g.a g.n g.c,.slice la ln lc,.slice sa sn sc]] U fun e w'=>e=.returned (.bool true)/\∃P2 Y2,Lw w0 P2 w' yb Y2 N (M+1)):=hid fun U hU=>wX (h.below hU) hM g ((hg.below hU).mono hU.size) hr (ht.held hU.size (hU.block 0 ht.1)) 1 a b la sa ln lc sn sc
 clear h hM hg hr ht;go_enter func11,ntmps11;go_wp2_with (go_at_call 33;refine (HO.out _ P8).mono ?_;rintro e w1 ⟨rfl,P2,Y2,hW⟩;have HW:=hid hW;clear hW)
 go_ret;exact⟨rfl,P2,Y2,HW.out⟩
structure StR where
 k:Int
 a:Int
 b:Int
 g:PgR
 la:Option Addr
 ln:Nat
 lc:Nat
 sa:Option Addr
 sn:Nat
 sc:Nat
def StR.cells (s:StR):List Value:=[.int .i64 s.k,.int .i64 s.a,.int .i64 s.b,.slice s.g.a s.g.n s.g.c,.slice s.la s.ln s.lc,.slice s.sa s.sn s.sc]
structure pI (w:World) (s:StR):Prop where
 a : -9223372036854775808<=s.a/\s.a<=9223372036854775807
 pg:I7 w.heap.size w s.g
 re:gV s.g
theorem a1C (h:Lw w0 P w yb Y N M) (hN:N<=9999990000) (hM:M<=900000000) (ht:Tab w) (s:StR) (hs:pI w s) (k1:1<=s.k) (k6:s.k<=6) :
  Calls prog 11 #[.pointer (some ⟨yb,0,none⟩),.agg s.cells.toArray] w fun e w'=>e=.returned (.bool true)/\∃P2 Y2,Lw w0 P2 w' yb Y2 (N+10000) (M+100):=by
 obtain⟨k,a,b,g,la,ln,lc,sa,sn,sc⟩:=s;by_cases e:k=1
 ·subst e
  refine (a1E h hM g hs.pg hs.re ht a b la sa ln lc sn sc).mono ?_;rintro e w' ⟨rfl,P2,Y2,hL⟩;exact⟨rfl,P2,Y2,hL.mono R4 R4⟩
 ·have xa:1<=k:=k1
  exact a5p h hN hM k a b hs.a R4 k6 g.a la sa g.n g.c ln lc sn sc
theorem a3Q (h:Lw w0 P w yb Y N M) (hM:M<=1000000000) :
  Calls prog 12 #[.pointer (some ⟨yb,1,none⟩)] w fun e w'=>e=.returned (.bool true)/\Lw w0 P w' yb Y N M:=by
 refine (yP h.sep h.p0 h.law fun j=>Nat.le_trans (h.len j) hM).mono ?_;rintro e w' ⟨rfl,hb⟩;exact⟨rfl,h.below hb⟩
end
def a0U:PlR:=⟨[],.slice none 0 0,fun _=>.slice none 0 0,fun _=>[]⟩
theorem a2P {w V:World} (hB:Below w.heap.size w V) (hlt:w.heap.size < V.heap.size) (h0:0 < w.heap.size) (hc:∀j,j<=5->V.cell? ⟨w.heap.size,j,none⟩=some (.slice none 0 0)) (hz:∀j,V.frozen? ⟨w.heap.size,j,none⟩=false) :
  Lw ⟨w,fun _=>True⟩ (fun i=>if i=(0,0) then I2 w.heap.size a0U else D5.none) V w.heap.size a0U 0 0:=by
 have hP:I1 V w.heap.size a0U:=⟨hlt,hz,hc 0 R4,World.ownsRow_nil _ _ _ _,(fun e=>by cases e),fun j _ h5=>hc j h5,fun j _ _=>World.ownsRow_nil _ _ _ _,fun j _ _ e=>by cases e⟩;have hb:∀k,Q0 w.heap.size a0U k->k=w.heap.size:=fun k hk=>by
  rcases hk with hk | hk | ⟨j,_,_,hk⟩
  ·exact hk
  ·cases hk
  ·cases hk
 refine⟨⟨by omega,fun i=>?_,fun i j k hi hj=>?_,fun i hi=>?_⟩,if_pos rfl,⟨rfl,fun j i nb _ _ hq=>?_⟩,fun i p hp=>?_,fun j=>L1c _,L1c _,⟨hB.os,hB.tape,hB.output,hB.size,fun b hb _=>hB.block b hb⟩,fun i b hi e=>?_⟩
 ·by_cases e:i=(0,0)
  ·rw [if_pos e];exact hP
  ·rw [if_neg e];trivial
 ·by_cases e:i=(0,0)
  ·by_cases e':j=(0,0)
   ·rw [e,e']
   ·rw [if_neg e'] at hj;exact hj.elim
  ·rw [if_neg e] at hi;exact hi.elim
 ·by_cases e:i=(0,0)
  ·rw [if_pos e] at hi
   have:=hb 0 hi;omega
  ·rw [if_neg e] at hi;exact hi.elim
 ·have:([]:List Nat)[i]?=some nb:=hq
  simp at this
 ·have:([]:List (Nat × Nat))[i]?=some p:=hp
  simp at this
 ·by_cases e':i=(0,0)
  ·rw [if_pos e'] at hi
   have:=hb b hi;have e1:b < w.heap.size:=e.1;omega
  ·rw [if_neg e'] at hi;exact hi.elim
def a0b (w:World) (a:Option Addr) (l:List StR):Prop:=0 < l.length->∃b o,a=some ⟨b,o,none⟩/\b < w.heap.size/\∀(i:Nat) (s:StR),l[i]?=some s->∀j u,s.cells[j]?=some u->w.cell? ⟨b,o+i*6+j,none⟩=some u
theorem Lw.kept {w w':World} {P:A3} {yb N M:Nat} {Y:PlR} (h:Lw ⟨w,fun _=>True⟩ P w' yb Y N M):Below w.heap.size w w' :=
 ⟨h.bel.os,h.bel.tape,h.bel.output,h.bel.size,fun b hb=>h.bel.block b hb trivial⟩
theorem a0V {w:World} (ht:Tab w) {sa:Option Addr} {sc kb kc:Nat} {l:List StR} (hl:a0b w sa l) (hn:l.length<=900000) (hs:∀s,s∈l->pI w s) (hkb:kb < w.heap.size) (hk:∀j:Nat,j < 6->w.cell? ⟨kb,j,none⟩=some (.int .i64 ((j:Int)+1))) :
  Calls prog 8 #[.slice sa l.length sc,.slice (some ⟨kb,0,none⟩) 6 kc] w fun e w'=>e=.returned (.bool true)/\Below w.heap.size w w':=by
 have HT:=hid ht;have HL:=hid hl;have HS:=hid hs;have HK:=hid hk;clear hl hs hk ht;go_enter func8,ntmps8;have xl:∀j,j<=5->(w.alloc (Obj.cells #[.slice none 0 0,.slice none 0 0,.slice none 0 0,.slice none 0 0,.slice none 0 0,.slice none 0 0] 37)).cell? ⟨w.heap.size,j,none⟩=some (.slice none 0 0):=fun j hj=>by
  have:j=0\/j=1\/j=2\/j=3\/j=4\/j=5:=by omega
  rcases this with rfl | rfl | rfl | rfl | rfl | rfl <;> go_simp
 have xr:Hid (Lw ⟨w,fun _=>True⟩ (fun i=>if i=(0,0) then I2 w.heap.size a0U else D5.none) (w.alloc (Obj.cells #[.slice none 0 0,.slice none 0 0,.slice none 0 0,.slice none 0 0,.slice none 0 0,.slice none 0 0] 37)) w.heap.size a0U 0 0):=hid (a2P (Below.alloc (Below.refl _ _) (L1c _) _) R5 HT.out.1 xl (fun j=>by go_simp));clear xl;go_wp2_with fail;generalize (w.alloc (Obj.cells #[.slice none 0 0,.slice none 0 0,.slice none 0 0,.slice none 0 0,.slice none 0 0,.slice none 0 0] 37))=V at *
 go_loopw [6] (fun vi wr=>∃i:Nat,i<=l.length/\vi=.int .i64 i/\∃P Y,Lw ⟨w,fun _=>True⟩ P wr w.heap.size Y (i*10000) (i*100)) (fun vi _=>l.length - (intOf vi).toNat)
 case atStart=>exact ⟨0,Nat.zero_le _,rfl,_,_,xr.out⟩
 case round =>
  obtain⟨i,hi,rfl,P,Y,hL⟩:=hrel;have xj:=hid hL;clear hL;by_cases hlt:i < l.length
  ·obtain ⟨s,hx⟩:∃s,l[i]?=some s:=⟨_,L1b hlt⟩
   obtain⟨sb,so,rfl,xc,xm⟩:=HL.out R4;have xe:=HS.out s (L2a hx);have xa:=xm i s hx;obtain⟨k,ka,kx,g,la,ln,lc,ba,bn,bc⟩:=s;have x0:w.cell? ⟨sb,so+i*6,none⟩=some (.int .i64 k):=xa 0 _ rfl;have x1:w.cell? ⟨sb,so+i*6+1,none⟩=some (.int .i64 ka):=xa 1 _ rfl;have x2:w.cell? ⟨sb,so+i*6+2,none⟩=some (.int .i64 kx):=xa 2 _ rfl;have x3:w.cell? ⟨sb,so+i*6+3,none⟩=some (.slice g.a g.n g.c):=xa 3 _ rfl
   have x4:w.cell? ⟨sb,so+i*6+4,none⟩=some (.slice la ln lc):=xa 4 _ rfl;have x5:w.cell? ⟨sb,so+i*6+5,none⟩=some (.slice ba bn bc):=xa 5 _ rfl;have HX:Hid (∀u,Below w.heap.size w u->(u.cell? ⟨sb,so+i*6,none⟩=some (.int .i64 k)/\u.cell? ⟨sb,so+i*6+1,none⟩=some (.int .i64 ka)/\u.cell? ⟨sb,so+i*6+2,none⟩=some (.int .i64 kx)/\u.cell? ⟨sb,so+i*6+3,none⟩=some (.slice g.a g.n g.c)/\u.cell? ⟨sb,so+i*6+4,none⟩=some (.slice la ln lc)/\u.cell? ⟨sb,so+i*6+5,none⟩=some (.slice ba bn bc))):=hid fun u hu=>⟨keep hu xc x0,keep hu xc x1,keep hu xc x2,keep hu xc x3,keep hu xc x4,keep hu xc x5⟩
   have xf:Hid (1<=k/\k<=6->∀U,Lw ⟨w,fun _=>True⟩ P U w.heap.size Y (i*10000) (i*100)->Calls prog 11 #[.pointer (some ⟨w.heap.size,0,none⟩),.agg #[.int .i64 k,.int .i64 ka,.int .i64 kx,.slice g.a g.n g.c,.slice la ln lc,.slice ba bn bc]] U fun e w'=>e=.returned (.bool true)/\∃P2 Y2,Lw ⟨w,fun _=>True⟩ P2 w' w.heap.size Y2 (i*10000+10000) (i*100+100)):=hid fun hk U hU=>a1C hU R4 R4 (HT.out.held hU.kept.size (hU.kept.block 0 HT.out.1)) ⟨k,ka,kx,g,la,ln,lc,ba,bn,bc⟩ ⟨xe.a,(xe.pg.below hU.kept).mono hU.kept.size,xe.re⟩ hk.1 hk.2
   have xu:(i:Int) < (l.length:Int):=by omega
   clear xa xm x0 x1 x2 x3 x4 x5 hx xe;go_wp2_with fail;go_loopw [7,8] (fun vf vj wr2=>∃(j:Nat) (fb:Bool),j<=6/\vj=.int .i64 j/\vf=.bool fb/\(fb=true↔1<=k/\k<=(j:Int))/\Lw ⟨w,fun _=>True⟩ P wr2 w.heap.size Y (i*10000) (i*100)) (fun _ vj _=>6 - (intOf vj).toNat)
   case atStart=>exact ⟨0,false,by omega,rfl,rfl,⟨fun e=>(by cases e),fun e=>by omega⟩,xj.out⟩
   case round =>
    obtain⟨j,fb,hj,rfl,rfl,xh,xb⟩:=hrel;have xd:=hid xb;obtain⟨y0,y1,y2,y3,y4,y5⟩:=HX.out _ xb.kept;have xg:=hid xh;have xw:=xb.kept.size;by_cases hlj:j < 6
    ·have kj:=keep xb.kept hkb (HK.out j hlj)
     have xp:(j:Int) < 6:=by omega
     clear xb xh y1 y2 y3 y4 y5
     cases fb with
     | true =>
      have xv:=xg.out.1 rfl;go_wp2_with fail;go_region
      all_goals go_wp2_with fail
      all_goals go_roundw
      case rel=>exact ⟨j+1,true,by omega,by go_num,rfl,⟨fun _=>by omega,fun _=>rfl⟩,xd.out.below (by repeat (first | exact Below.refl _ _ | refine Below.drew ?_))⟩
      case measure=>simp [intOf];omega
     | false =>
      have xv:¬(1<=k/\k<=(j:Int)):=fun e=>by have:=xg.out.2 e;cases this
      by_cases he:k=(j:Int)+1
      ·have xq:(k == (j:Int)+1)=true:=beq_iff_eq.2 he
       go_wp2_with fail;go_region
       all_goals go_wp2_with fail
       all_goals go_roundw
       case rel=>exact ⟨j+1,true,by omega,by go_num,rfl,⟨fun _=>by omega,fun _=>rfl⟩,xd.out.below (by repeat (first | exact Below.refl _ _ | refine Below.drew ?_))⟩
       case measure=>simp [intOf];omega
      ·have xq:(k == (j:Int)+1)=false:=L2c.2 he
       go_wp2_with fail;go_region
       all_goals go_wp2_with fail
       all_goals go_roundw
       case rel=>exact ⟨j+1,false,by omega,by go_num,rfl,⟨fun e=>(by cases e),fun e=>by omega⟩,xd.out.below (by repeat (first | exact Below.refl _ _ | refine Below.drew ?_))⟩
       case measure=>simp [intOf];omega
    ·obtain rfl:j=6:=by omega
     have xo:¬(6:Int) < 6:=by decide
     clear xb xh
     cases fb with
     | true =>
      have xn:Hid (1<=k/\k<=6):=hid (xg.out.1 rfl);go_wp2_with (first | (go_at_call 11;refine (xf.out xn.out _ xd.out).mono ?_;rintro e w3 ⟨rfl,P2,Y2,xi⟩;have xs:=hid xi;clear xi) | (go_at_call 12;refine (a3Q xs.out R4).mono ?_;rintro e w4 ⟨rfl,xk⟩;have xt:=hid xk;clear xk))
      go_roundw
      case rel=>exact ⟨i+1,by omega,by go_num,P2,Y2,xt.out.mono R4 R4⟩
      case measure=>simp [intOf];omega
     | false =>
      go_wp2_with fail;go_roundw
      case rel=>exact ⟨i+1,by omega,by go_num,P,Y,xd.out.mono R4 R4⟩
      case measure=>simp [intOf];omega
  ·obtain rfl:i=l.length:=by omega
   have xo:¬(l.length:Int) < (l.length:Int):=by omega
   go_wp2_with fail;go_ret;exact⟨rfl,xj.out.kept⟩
section
variable {U w:World}
theorem a0b.later {a:Option Addr} {l:List StR} (h:a0b w a l) (hB:Below w.heap.size w U):a0b U a l:=fun h0=>by
 obtain⟨b,o,e,hb,hc⟩:=h h0;exact⟨b,o,e,L0a hb hB.size,fun i s hs j u hu=>keep hB hb (hc i s hs j u hu)⟩
theorem pI.later {s:StR} (h:pI w s) (hB:Below w.heap.size w U):pI U s:=⟨h.a,(h.pg.below hB).mono hB.size,h.re⟩
theorem a3t (ht:Tab w) {sa:Option Addr} {sc:Nat} {l:List StR} (hl:a0b w sa l) (hn:l.length<=900000) (hs:∀s,s∈l->pI w s) :
  Calls prog 3 #[.slice sa l.length sc] w fun e w'=>e=.returned (.bool true)/\Below w.heap.size w w':=by
 have hB:Below w.heap.size w (w.alloc (Obj.cells #[.int .i64 1,.int .i64 2,.int .i64 3,.int .i64 4,.int .i64 5,.int .i64 6] 3)):=Below.alloc (Below.refl _ _) (L1c _) _;have HP:Hid (Calls prog 8 #[.slice sa l.length sc,.slice (some ⟨w.heap.size,0,none⟩) 6 6] (w.alloc (Obj.cells #[.int .i64 1,.int .i64 2,.int .i64 3,.int .i64 4,.int .i64 5,.int .i64 6] 3)) fun e w'=>e=.returned (.bool true)/\Below w.heap.size w w'):=hid ((a0V (ht.held hB.size (hB.block 0 ht.1)) (hl.later hB) hn (fun s h=>(hs s h).later hB) R5 (fun j hj=>by
  have:j=0\/j=1\/j=2\/j=3\/j=4\/j=5:=by omega
  rcases this with rfl | rfl | rfl | rfl | rfl | rfl <;> go_simp)).mono fun e w' h=>⟨h.1,hB.trans (h.2.mono hB.size)⟩)
 clear hl hs ht hB;go_enter func3,ntmps3;go_wp2_with (go_at_call 8;refine HP.out.mono ?_;rintro e w1 ⟨rfl,hb⟩;have HB:=hid hb;clear hb)
 go_ret;exact⟨rfl,HB.out⟩
end
end Go.Proofs.YtbkmgoffiigdbaaGreatDoor
namespace Go.Proofs.YtbkmgoffiigdbaaGreatDoor
open Go.ChangeShapes Go.WideShapes Go.ChangeAt Go.RowKit Go.Proofs.Tryz
set_option maxHeartbeats 4000000
set_option maxRecDepth 100000
section
variable {H:Type} {W:World} {cs:List Value} {enc:TypeId × Value->H} {fuel:Nat} {x:DataW H × List MemPlace}
theorem yZ:prog.cellsOf 43=6:=by kernel_rfl
theorem a4u:prog.cellsOf 24=1:=by kernel_rfl
theorem a4v:prog.cellsOf 26=1:=by kernel_rfl
theorem a6w {n:Int} (h:(Lit.int .i64 n).wf=true) : -9223372036854775808<=n/\n<=9223372036854775807:=by
 have h':=h;simp only[Lit.wf,Bool.and_eq_true,decide_eq_true_eq] at h';exact h'
theorem nA {t e:TypeId} (ht:prog.underlying t=some (.slice e)) (h:DataW.trod enc prog W 0 (fun _=>true) true fuel t cs=some x):∃a n c,cs=[.slice a n c]:=by
 rcases Go.Deep.open_slice ht h with ⟨xa,_⟩ | ⟨a,xb,xc,_,_,_,_,xa,_⟩
 ·exact ⟨_,_,_,xa⟩
 ·exact ⟨_,_,_,xa⟩
theorem oS (h:DataW.trod enc prog W 0 (fun _=>true) true fuel 43 cs=some x) (hw:∀y∈x.1.weights prog 43,y<=140737488351232) :
  (∃s:StR,cs=s.cells/\pI W s)/\2<=Rows.uptoBulk x.1:=by
 obtain⟨xs,n,_,hx,hl,xa,hf⟩:=DataW.trod_struct underlying43 h;rw[yZ] at hl
 match cs,hl,xs,xa with
 | [u0,u1,u2,u3,u4,u5],_,[y0,y1,y2,y3,y4,y5],_ =>
  have h0:DataW.trod enc prog W 0 (fun _=>true) true n 3 ((([u0,u1,u2,u3,u4,u5]:List Value).drop 0).take (prog.cellsOf 3))=some y0:=hf 0 _ rfl;have h1:DataW.trod enc prog W 0 (fun _=>true) true n 3 ((([u0,u1,u2,u3,u4,u5]:List Value).drop 1).take (prog.cellsOf 3))=some y1:=hf 1 _ rfl;have h2:DataW.trod enc prog W 0 (fun _=>true) true n 3 ((([u0,u1,u2,u3,u4,u5]:List Value).drop 2).take (prog.cellsOf 3))=some y2:=hf 2 _ rfl
  have h3:DataW.trod enc prog W 0 (fun _=>true) true n 41 ((([u0,u1,u2,u3,u4,u5]:List Value).drop 3).take (prog.cellsOf 41))=some y3:=hf 3 _ rfl;have h4:DataW.trod enc prog W 0 (fun _=>true) true n 24 ((([u0,u1,u2,u3,u4,u5]:List Value).drop 4).take (prog.cellsOf 24))=some y4:=hf 4 _ rfl;have h5:DataW.trod enc prog W 0 (fun _=>true) true n 26 ((([u0,u1,u2,u3,u4,u5]:List Value).drop 5).take (prog.cellsOf 26))=some y5:=hf 5 _ rfl
  simp only[List.drop,pK,a4x,a4u,a4v,List.take] at h0 h1 h2 h3 h4 h5;obtain⟨k,e0,_,_⟩:=DataW.trod_int underlying3 h0;obtain⟨a,e1,_,ha⟩:=DataW.trod_int underlying3 h1;obtain⟨b,e2,_,_⟩:=DataW.trod_int underlying3 h2;obtain⟨la,ln,lc,e4⟩:=nA underlying24 h4;obtain⟨sa,sn,sc,e5⟩:=nA underlying26 h5;obtain⟨z0,m,hz,_,hy⟩:=trod_struct1 underlying41 h3
  simp only[List.cons.injEq,and_true] at e0 e1 e2 e4 e5;subst e0 e1 e2 e4 e5;have xc:DataW.trod enc prog W 0 (fun _=>true) true m 39 [u3]=some z0:=by
   rw[a4w] at hy;simpa using hy
  have xb:x.1=.agg [y0.1,y1.1,y2.1,y3.1,y4.1,y5.1]:=by rw [hx];rfl
  have hd:y3.1=.agg [z0.1]:=by rw [hz]
  obtain⟨g,hc,hg,hr⟩:=a0Q xc (fun y hm=>hw y (by
   rw[xb,hd];simp only[DataW.weights,underlying43];simp[DataW.weightsEach,DataW.weights,underlying41,hm]))
  simp only[List.cons.injEq,and_true] at hc;subst hc;refine⟨⟨⟨k,a,b,g,la,ln,lc,sa,sn,sc⟩,rfl,⟨a6w ha,hg,hr⟩⟩,?_⟩;rw[xb];simp only[Rows.uptoBulk,Rows.uptoBulkAll];have:=fun d:DataW H=>(show 1<=Rows.uptoBulk d by cases d with
   | lit l=>cases l <;> simp [Rows.uptoBulk]
   | nil=>simp [Rows.uptoBulk]
   | ptr d=>simp [Rows.uptoBulk]
   | slice elems spare=>simp [Rows.uptoBulk]
   | agg parts=>simp [Rows.uptoBulk]
   | iface t d=>simp [Rows.uptoBulk]
   | map entries=>simp [Rows.uptoBulk]
   | held h=>simp [Rows.uptoBulk])
  have:=this y0.1;omega
theorem a2c (l:List (DataW H)) (h:∀d,d∈l->2<=Rows.uptoBulk d):2*l.length<=Rows.uptoBulkAll l:=by
 induction l with
 | nil=>simp [Rows.uptoBulkAll]
 | cons x r ih =>
  have h1:=h x (List.mem_cons_self ..);have h2:=ih fun d hd=>h d (List.mem_cons_of_mem _ hd)
  simp only[Rows.uptoBulkAll,List.length_cons];omega
theorem tL (h:DataW.trod enc prog W 0 (fun _=>true) true fuel 22 cs=some x) (hw:∀y∈x.1.weights prog 22,y<=140737488351232) (hb:Rows.uptoBulk x.1<=1048576) :
  ∃(a:Option Addr) (c:Nat) (l:List StR),cs=[.slice a l.length c]/\a0b W a l/\l.length<=900000/\∀s,s∈l->pI W s:=by
 rcases Go.Deep.open_slice underlying22 h with ⟨xf,_⟩ | ⟨a,len,xq,m,n,D,Pl,xf,_,xp,hm,xk,hx,xa⟩
 ·exact ⟨none,0,[],xf,(fun h=>absurd h R5),by simp,fun s h=>by cases h⟩
 ·simp only [if_true] at xk
  subst xk;rw[yZ] at xa;have xi:x.1=.slice ((List.range len).map D) ((List.range (m - len)).map fun j=>D (len+j)):=by rw [hx]
  have xl:∀i,i < len->∀y∈(D i).weights prog 43,y<=140737488351232:=fun i hi y hy=>hw y (by
   rw[xi];simp only[DataW.weights,underlying22,List.mem_cons,List.mem_append];exact Or.inr (Or.inl (eN (List.mem_map.2 ⟨i,List.mem_range.2 hi,rfl⟩) hy)))
  haveI:Inhabited StR:=⟨⟨0,0,0,⟨none,0,0,0,0,fun _=>⟨0,0,none,0,0,0,0,fun _=>0,fun _=>0⟩⟩,none,0,0,none,0,0⟩⟩
  obtain⟨f,hf⟩:=Go.Deep.choose_lt (α:=StR) (n:=len) (p:=fun i s=>W.cells? 0 (a.add (i*6)) 6=some s.cells/\pI W s) (fun i hi=>by
   obtain⟨xn,xo,xh⟩:=xa i R4;obtain⟨⟨s,rfl,q1⟩,_⟩:=oS xh (xl i hi);exact⟨s,xo,q1⟩)
  have xb:((List.range len).map f).length=len:=by simp
  have xj:2*len<=1048576:=by
   have h1:=a2c ((List.range len).map D) (fun d hd=>by
    obtain⟨i,hi,rfl⟩:=List.mem_map.1 hd;have xm:=List.mem_range.1 hi;obtain⟨xn,_,xh⟩:=xa i R4;exact (oS xh (xl i xm)).2)
   rw[xi] at hb;simp only[Rows.uptoBulk] at hb;simp only[List.length_map,List.length_range] at h1;omega
  refine⟨some a,m,(List.range len).map f,by rw [xb];exact xf,fun h0=>?_,by rw [xb];omega,fun s hs=>?_⟩
  ·rw [xb] at h0
   have xd:∀i,i < len->∀j u,(f i).cells[j]?=some u->W.cell? ((a.add (i*6)).add j)=some u:=fun i hi j u hu=>by
    have hj:j < 6:=by
     have:=(L1a.1 hu).1;exact this
    have:=(World.cells?_some (hf i hi).1).2.2 j hj;rw[this];exact hu
   have c0:=xd 0 h0 0 _ rfl;have xg:(a.add (0*6)).add 0=a:=by simp [Addr.add]
   rw[xg] at c0;obtain⟨b,o,xe⟩:=a;have xc:xe=none:=World.cell?_spot c0;subst xc;refine⟨b,o,rfl,World.block_lt_of_cell? _ _ c0,fun i s hs j u hu=>?_⟩;rw[List.getElem?_map] at hs
   cases er:(List.range len)[i]? with
   | none=>rw [er] at hs;cases hs
   | some i' =>
    rw[er] at hs;have hi:=(L1a.1 er).1;rw[List.length_range] at hi;rw[List.getElem?_range hi] at er;obtain rfl:=Option.some.inj er;obtain rfl:=Option.some.inj hs;have:=xd i hi j u hu;rw[add_plain,add_plain] at this;exact this
  ·obtain ⟨i,hi,rfl⟩:=List.mem_map.1 hs
   exact (hf i (List.mem_range.1 hi)).2
end
end Go.Proofs.YtbkmgoffiigdbaaGreatDoor
