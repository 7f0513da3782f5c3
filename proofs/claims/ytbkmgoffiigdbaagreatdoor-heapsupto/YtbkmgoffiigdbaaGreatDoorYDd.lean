import Derived.Deep.SlicePairs
import Derived.Deep.Strs
import Derived.Test.YtbkmgoffiigdbaaGreatDoorYDb
namespace Go.Proofs.YtbkmgoffiigdbaaGreatDoor
open Go.ChangeShapes Go.WideShapes Go.ChangeAt Go.RowKit Go.Proofs.Tryz
set_option maxHeartbeats 4000000
set_option maxRecDepth 100000
section
variable {H:Type} {W:World} {cs:List Value} {enc:TypeId × Value->H} {fuel:Nat} {x:DataW H × List MemPlace}
theorem lG:prog.cellsOf 3=1:=by kernel_rfl
theorem a4z:prog.cellsOf 39=1:=by kernel_rfl
theorem a4A:prog.cellsOf 41=1:=by kernel_rfl
theorem a2m:prog.cellsOf 161=1:=by kernel_rfl
theorem rT:prog.cellsOf 163=3:=by kernel_rfl
theorem a2n:prog.cellsOf 165=2:=by kernel_rfl
theorem a2i:prog.bytesOf 163=40:=by kernel_rfl
theorem a2j:prog.bytesOf 165=16:=by kernel_rfl
theorem a4w {l:List Nat} {b:Nat} (h:l.all (·<=b)=true) {x:Nat} (hx:x∈l):x<=b:=by
 have:=List.all_eq_true.1 h x hx;simpa using this
theorem a4T (h:DataW.trod enc prog W 0 (fun _=>true) true fuel 163 cs=some x) (hw:∀y∈x.1.weights prog 163,y<=140737488351232) :
  ∃f:FnR,cs=[.int .i64 f.p,.int .i64 f.l,.slice f.a f.n f.c]/\L4 W.heap.size W f/\f.n*16<=140737488351232/\(f.a=none->f.n=0/\f.c=0):=by
 obtain⟨y0,y1,y2,n,hx,hl,h0,h1,h2⟩:=Go.Deep.trod_struct3 underlying163 h;rw[rT] at hl
 match cs,hl with
 | [u0,u1,u2],_ =>
  simp only[List.drop,lG,a2m,List.take] at h0 h1 h2;obtain⟨p,e0,_,_⟩:=DataW.trod_int underlying3 h0;obtain⟨l,e1,_,_⟩:=DataW.trod_int underlying3 h1;simp only[List.cons.injEq,and_true] at e0 e1;subst e0 e1;rcases Go.Deep.open_slice_pairs underlying161 underlying165 a2n rfl rfl lG lG h2 with ⟨xc,_⟩ | ⟨a,len,xl,m,n',V0,V1,D0,D1,P0,P1,xc,_,xo,hm,xg,xj,xa⟩
  ·simp only [List.cons.injEq,and_true] at xc
   subst xc;exact⟨⟨p,l,none,0,0,0,0,fun _=>0,fun _=>0⟩,rfl,⟨by show 0<=_;omega,fun hn=>absurd hn (by show ¬0 < 0;omega)⟩,by show 0*16<=_;omega,fun _=>⟨rfl,rfl⟩⟩
  ·simp only [List.cons.injEq,and_true] at xc
   subst xc;simp only[if_true] at xg;subst xg;obtain⟨op,xi⟩:=Go.Deep.choose_lt (α:=Int) (n:=m) (p:=fun i v=>V0 i=.int .i64 v) (fun i hi=>by
    obtain⟨v,e,_,_⟩:=DataW.trod_int underlying3 (xa i hi).2.2.1;exact⟨v,by simpa using e⟩)
   obtain⟨ar,xk⟩:=Go.Deep.choose_lt (α:=Int) (n:=m) (p:=fun i v=>V1 i=.int .i64 v) (fun i hi=>by
    obtain⟨v,e,_,_⟩:=DataW.trod_int underlying3 (xa i hi).2.2.2;exact⟨v,by simpa using e⟩)
   have xb:len*16<=140737488351232:=by
    have xh:x.1=.agg [y0.1,y1.1,y2.1]:=by rw [hx]
    have:(len+(m - len))*16∈x.1.weights prog 163:=by
     rw[xh,xj];simp[DataW.weights,DataW.weightsEach,underlying163,underlying161,a2j]
    have:=hw _ this;omega
   refine⟨⟨p,l,some a,len,m,a.block,a.off,op,ar⟩,rfl,⟨?_,fun hn=>?_⟩,xb,fun h=>by cases h⟩
   ·show len<=_;omega
   ·have xn:0 < len:=hn
    have c0:=(xa 0 R4).1;have xf:a.add (0*2)=a:=by simp [Addr.add]
    rw[xf] at c0;obtain⟨b,o,xe⟩:=a;have xd:xe=none:=World.cell?_spot c0;subst xd;refine⟨rfl,World.block_lt_of_cell? _ _ c0,fun j hj=>?_⟩;have xm:j < len:=hj;obtain⟨q0,q1,_,_⟩:=xa j R4;rw[add_plain,xi j R4] at q0;rw[add_plain,xk j R4] at q1;exact⟨q0,q1⟩
theorem eG {H:Type} {e:TypeId} {l:List (DataW H)} {d:DataW H} (hd:d∈l) {y:Nat} (hy:y∈d.weights prog e):y∈DataW.weightsAll prog e l:=by
 induction l with
 | nil=>cases hd
 | cons a r ih =>
  rw[DataW.weightsAll,List.mem_append];rcases List.mem_cons.1 hd with rfl | hd
  ·exact L4a hy
  ·exact L4b (ih hd)
theorem a0Q (h:DataW.trod enc prog W 0 (fun _=>true) true fuel 39 cs=some x) (hw:∀y∈x.1.weights prog 39,y<=140737488351232) :
  ∃g:PgR,cs=[.slice g.a g.n g.c]/\I5 W.heap.size W g/\gU g:=by
 rcases Go.Deep.open_slice underlying39 h with ⟨xd,_⟩ | ⟨a,len,xn,m,n,D,Pl,xd,_,xq,hm,xf,hx,xa⟩
 ·subst xd
  exact⟨⟨none,0,0,0,0,fun _=>⟨0,0,none,0,0,0,0,fun _=>0,fun _=>0⟩⟩,rfl,⟨by show 0<=_;omega,fun hn=>absurd hn (by show ¬0 < 0;omega),fun i hi=>absurd hi (by show ¬i < 0;omega)⟩,by show 0*40<=_;omega,fun i hi=>absurd hi (by show ¬i < 0;omega)⟩
 ·subst xd
  simp only[if_true] at xf;subst xf;rw[rT] at xa;have xg:x.1=.slice ((List.range len).map D) ((List.range (m - len)).map fun j=>D (len+j)):=by rw [hx]
  have xp:(len+(m - len))*40<=140737488351232:=hw _ (by rw [xg];simp [DataW.weights,underlying39,a2i]);have xm:∀i,i < len->∀y∈(D i).weights prog 163,y<=140737488351232:=fun i hi y hy=>hw y (by
   rw[xg];simp only[DataW.weights,underlying39,List.mem_cons,List.mem_append];exact L4b (L4a (eG (List.mem_map.2 ⟨i,List.mem_range.2 hi,rfl⟩) hy)))
  haveI:Inhabited FnR:=⟨⟨0,0,none,0,0,0,0,fun _=>0,fun _=>0⟩⟩
  obtain⟨f,hf⟩:=Go.Deep.choose_lt (α:=FnR) (n:=len) (p:=fun i f=>W.cells? 0 (a.add (i*3)) 3=some [.int .i64 f.p,.int .i64 f.l,.slice f.a f.n f.c]/\L4 W.heap.size W f/\f.n*16<=140737488351232/\(f.a=none->f.n=0/\f.c=0)) (fun i hi=>by
   obtain⟨xo,xj,xi⟩:=xa i R4;obtain⟨f,rfl,q1,q2,q3⟩:=a4T xi (xm i hi);exact⟨f,xj,q1,q2,q3⟩)
  refine⟨⟨some a,len,m,a.block,a.off,f⟩,rfl,⟨by show len<=_;omega,fun hn=>?_,fun i hi=>(hf i hi).2.1⟩,by show len*40<=_;omega,fun i hi=>(hf i hi).2.2⟩;have xl:0 < len:=hn;have c0:=(World.cells?_some (hf 0 xl).1).2.2 0 R4;have xe:(a.add (0*3)).add 0=a:=by simp [Addr.add]
  rw[xe] at c0;have xh:W.cell? a=some (.int .i64 (f 0).p):=c0;obtain⟨b,o,xc⟩:=a;have xb:xc=none:=World.cell?_spot xh;subst xb;refine⟨rfl,World.block_lt_of_cell? _ _ xh,fun i hi=>?_⟩;have xk:i < len:=hi;have hc:=(World.cells?_some (hf i xk).1).2.2;have q0:=hc 0 R4;have q1:=hc 1 R4;have q2:=hc 2 R4;rw[add_plain,add_plain] at q0 q1 q2;exact⟨q0,q1,q2⟩
end
theorem yW:prog.cellsOf 43=6:=by kernel_rfl
theorem a4x:prog.cellsOf 24=1:=by kernel_rfl
theorem a4y:prog.cellsOf 26=1:=by kernel_rfl
theorem a6A {n:Int} (h:(Lit.int .i64 n).wf=true) : -9223372036854775808<=n/\n<=9223372036854775807:=by
 have h':=h;simp only[Lit.wf,Bool.and_eq_true,decide_eq_true_eq] at h';exact h'
theorem xZ {H:Type} {enc:TypeId × Value->H} {W:World} {fuel:Nat} {cs:List Value} {x:DataW H × List MemPlace} {t e:TypeId} (ht:prog.underlying t=some (.slice e)) (h:DataW.trod enc prog W 0 (fun _=>true) true fuel t cs=some x):∃a n c,cs=[.slice a n c]:=by
 rcases Go.Deep.open_slice ht h with ⟨xa,_⟩ | ⟨a,xc,xb,_,_,_,_,xa,_⟩
 ·exact ⟨_,_,_,xa⟩
 ·exact ⟨_,_,_,xa⟩
theorem a2h {H:Type} (l:List (DataW H)) (h:∀d,d∈l->2<=Rows.uptoBulk d):2*l.length<=Rows.uptoBulkAll l:=by
 induction l with
 | nil=>simp [Rows.uptoBulkAll]
 | cons x r ih =>
  have h1:=h x (List.mem_cons_self ..);have h2:=ih fun d hd=>h d (List.mem_cons_of_mem _ hd)
  simp only[Rows.uptoBulkAll,List.length_cons];omega
end Go.Proofs.YtbkmgoffiigdbaaGreatDoor
namespace Go.Proofs.YtbkmgoffiigdbaaGreatDoor
open Go.RowKit Go.Sort Go.Proofs.Tryz
set_option maxHeartbeats 4000000
set_option maxRecDepth 100000
section
variable {g:PgR} {w:World}
theorem rI {own:Own} {mb:Nat} {R:McR} (h:A4 w own mb g R) (ho:W7 R) (hal:(A1 R.abs).length<=1000) :
  Calls prog 64 #[.pointer (some ⟨mb,0,none⟩)] w fun e w'=>dJ own mb g R w e w':=by
 have H:=hid (jV h ho hal);clear h ho hal;go_enter func64,ntmps64;go_wp2_with (go_at_call 102;refine H.out.mono ?_;rintro e w2 ⟨rfl,hq⟩;have HQ:=hid hq;clear hq)
 go_ret;exact⟨rfl,HQ.out⟩
theorem RV.collect {R:RfR} {t:McA} (h:RV g R t):RV g { R with ths:=J8 (A1 R.abs) R.ths.length R.ths } (I7 t):=by
 obtain⟨e1,e2⟩:=oD (A1 R.abs) R.ths;refine⟨?_,dY h.i,?_,?_⟩
 ·have:=h.v.collect h.i
  show C8 ((J8 (A1 R.abs) R.ths.length R.ths).map ThR.slot) (RfR.abs { R with ths:=J8 (A1 R.abs) R.ths.length R.ths }) (I7 t);rw[e2];have e3:RfR.abs { R with ths:=J8 (A1 R.abs) R.ths.length R.ths }=(dP (R.ths.map ThR.slot) R.abs).2:=by
   show (⟨R.st,R.out,R.frs.map FrR.abs,(J8 (A1 R.abs) R.ths.length R.ths).map ThR.abs,R.dr⟩:McA)=_;rw[e1];rfl
  rw[e3];exact this
 ·show L6 ((J8 (A1 R.abs) R.ths.length R.ths).map ThR.abs)
  rw[e1];exact h.th.forget _
 ·show R.cap=(R9 t.obs (A1 t)).length
  rw[S4];exact h.cap
theorem qG {w0:L7} {P:A3} {yb N M i xb cb:Nat} {Y:PlR} (h:Lw w0 P w yb Y N M) (hi:Y.ps[i]?=some (xb,cb)) (hN:N<=10000000000) :
  ∃n:Int,∀U,L0d w U->Calls prog 64 #[.pointer (some ⟨xb,0,none⟩)] U fun e w1=>e=.returned (.int .i64 n)/\U.heap.size<=w1.heap.size/\(∀k,k < U.heap.size->w.heap.size<=k->w1.heap[k]?=U.heap[k]?) /\
   ∀V,L0d w1 V->Calls prog 65 #[.pointer (some ⟨cb,0,none⟩)] V fun e w2=>e=.returned (.int .i64 n)/\∃P2,Lw w0 P2 w2 yb Y N M:=by
 obtain⟨ox,gx,RX,oc,gc,RC,t,h1,h2,h3,h4,h5,h6,h7,h8⟩:=(h.pair i (xb,cb) hi).ex;refine⟨(gC (RC.ths.map ThR.slot) (A1 RC.abs):Int),fun U hU=>?_⟩;have xe:=h.below hU;have hM:A4 U ox xb gx RX:=by have:=xe.sep.F (1,i);rw [h1] at this;exact this
 have xh:A4 w ox xb gx RX:=by have:=h.sep.F (1,i);rw [h1] at this;exact this
 have xg:D4 gx RX.abs:=by rw [h3.abs];exact h4
 have xp:(A1 RX.abs).length<=1000:=xg.alive_len;have xd:McR.abs { RX with obs:=J5 RX.obs (A1 RX.abs) }=I7 t:=by
  show (⟨RX.st,RX.out,RX.frs.map FrR.abs,(J5 RX.obs (A1 RX.abs)).map ObR.abs,RX.dr⟩:McA)=_;rw[mW,<- h3.abs];rfl
 have xi:((taken RX.obs:Int) - (taken (J5 RX.obs (A1 RX.abs)):Int))=(gC (RC.ths.map ThR.slot) (A1 RC.abs):Int):=by
  have f1:=h7.v.freed;have f2:=fL h4;have f3:taken RX.obs=I8 t.obs:=by rw [M7,<- h3.abs];rfl
  have f4:taken (J5 RX.obs (A1 RX.abs))=I8 (I7 t).obs:=by rw [M7,<- xd];rfl
  rw[f3,f4];omega
 refine (rI hM (xg.heapOk h5) xp).mono ?_;rintro e w1 ⟨rfl,xl,xn⟩;have hT:=xn.touched;obtain⟨k1,k2⟩:=bT (R':={ RX with obs:=J5 RX.obs (A1 RX.abs) }) hM hT;have xj:=xe.sep.upd (1,i) (U0 ox xb gx { RX with obs:=J5 RX.obs (A1 RX.abs) }) hT.size (by rw [h1];exact k1) xl (by rw [h1];exact k2);have xo:Stp P U (P.put (1,i) (U0 ox xb gx { RX with obs:=J5 RX.obs (A1 RX.abs) })) w1:=Stp.one (1,i) _ hT.os hT.tape hT.output hT.size (by rw [h1];exact k1) (by rw [h1];exact k2)
 refine⟨by rw [xi],hT.size,fun k hk hk2=>hT.block k hk ?_,fun V hV=>?_⟩
 ·cases e:ox k with
  | none=>rfl
  | some q=>have:=xh.lt k q e;omega
 ·have xf:=xj.below hV
  have hR:A8 V oc cb gc RC:=by
   have:=xf.F (2,i);rw[A3.put_ne _ (H5 R3 _ _),h2] at this;exact this
  refine (iQ hR (h7.bd (h6.pgOk h5) R4) h7.rin h7.sl).mono ?_;rintro e w2 ⟨rfl,xk,xa⟩;obtain⟨q1,q2⟩:=iR (g:=gc) (mb:=cb) (R:=RC) (R':={ RC with ths:=J8 (A1 RC.abs) RC.ths.length RC.ths }) xa (fun b q e=>⟨q,e⟩);have e2:(P.put (1,i) (U0 ox xb gx { RX with obs:=J5 RX.obs (A1 RX.abs) })) (2,i)=cR oc cb gc RC:=by rw [A3.put_ne _ (H5 R3 _ _)];exact h2
  have xm:=xf.upd (2,i) (cR oc cb gc { RC with ths:=J8 (A1 RC.abs) RC.ths.length RC.ths }) xa.size (by rw [e2];exact q1) xk (by rw [e2];exact q2);have xc:=Stp.one (P:=P.put (1,i) (U0 ox xb gx { RX with obs:=J5 RX.obs (A1 RX.abs) })) (2,i) (cR oc cb gc { RC with ths:=J8 (A1 RC.abs) RC.ths.length RC.ths }) xa.os xa.tape xa.output xa.size (by rw [e2];exact q1) (by rw [e2];exact q2)
  refine⟨rfl,_,h.put2 (L1c _) hi xm (((Stp.below hU).trans xo).trans ((Stp.below hV).trans xc)) ⟨ox,gx,_,oc,gc,_,I7 t,?_,A3.put_same _ _ _,⟨xd,h3.nil⟩,dY h4,h5,h6,h7.collect,?_⟩⟩
  ·rw [A3.put_ne _ (H5 R3 _ _),A3.put_same]
  ·show (J8 (A1 RC.abs) RC.ths.length RC.ths).length<=N
   rw[aT];exact h8
end
theorem wR {w0:L7} {w:World} {P:A3} {yb N M i xb cb:Nat} {Y:PlR} (h:Lw w0 P w yb Y N M) (hi:Y.ps[i]?=some (xb,cb)) (hN:N<=9999990000) (a b:Int) (fa la sa:Option Addr) (fn fc ln lc sn sc:Nat) :
  Calls prog 35 #[.pointer (some ⟨yb,0,none⟩),.agg #[.pointer (some ⟨xb,0,none⟩),.pointer (some ⟨cb,0,none⟩)],.agg #[.int .i64 8,.int .i64 a,.int .i64 b,.slice fa fn fc,.slice la ln lc,.slice sa sn sc]] w fun e w'=>e=.returned (.bool true)/\∃P2,Lw w0 P2 w' yb Y N M:=by
 obtain⟨n,xc⟩:=qG h hi R4;have HR:=hid xc;clear xc h hi;go_enter func35,ntmps35;go_wp2_with (first | (go_at_call 64;refine (HR.out _ P8).mono ?_;rintro e w1 ⟨rfl,xe,xd,xa⟩;have c1:w1.cell? ⟨w.heap.size,1,none⟩=some (.pointer (some ⟨cb,0,none⟩)):=(L0b (a:=⟨w.heap.size,1,none⟩) (xd w.heap.size Q8 (L1c _))).trans Q9;have xf:w.heap.size < w1.heap.size:=(by simp at xe;omega);have HC:=hid xa;clear xa xd xe) | (go_at_call 65;refine (HC.out _ (L3b _ _)).mono ?_;rintro e w2 ⟨rfl,P2,hL⟩;have HL:=hid hL;clear hL))
 go_ret;exact⟨rfl,P2,HL.out⟩
theorem a5W:(prog.info? 3).map (fun i=>(i.zero,i.size,i.bytes))=some (some (.int .i64 0),1,8):=by kernel_rfl
def a5z (l:List Int) (w:World) (e:Ending) (w':World):Prop :=
 ∃b cap,e=.returned (.slice (some ⟨b,0,none⟩) l.length cap)/\w'.ownsRow w.heap.size 3 1 (.slice (some ⟨b,0,none⟩) (l.length+2) cap) (l.length+2) ((l.map fun n=>.int .i64 n)++[.int .i64 (-7070),.int .i64 (-7070)])/\L0d w w'
theorem pY {w:World} {la:Option Addr} {l:List Int} {c:Nat} (hl:J2 w la l) (hn:l.length<=10000000) :
  Calls prog 14 #[.slice la l.length c] w fun e w'=>a5z l w e w':=by
 obtain⟨i3,hi,hz,xf,xb⟩:=info_parts a5W;have HI:=hid hi;have HZ:=hid hz;have xd:=hid xf;have xc:=hid xb;have HL:=hid hl;have xa:Hid (0 < l.length->∃d,la=some d/\∀j u,(l.map fun n=>Value.int .i64 n)[j]?=some u->w.cell? (d.add j)=some u):=hid fun hm=>by
  obtain⟨b,o,e,hb,hc⟩:=HL.out hm;refine⟨⟨b,o,none⟩,e,fun j u hj=>?_⟩;rw[List.getElem?_map] at hj
  cases ej:l[j]? with
  | none=>rw [ej] at hj;cases hj
  | some x =>
   rw[ej] at hj;obtain rfl:=L5b hj;rw[eL];exact hc j x ej
 clear hi hz xf xb hl;go_enter func14,ntmps14;go_wp2_with (at_builtin;go_must (refine A9 _ rfl (.tmp 4) (.tmp 5) 24 rfl w.heap.size 3 i3 _ 1 8 underlying24 HI.out HZ.out xd.out xc.out rfl R3 (.slice none 0 0) 0 [] rfl (World.ownsRow_nil _ _ _ _) la l.length c (l.map fun n=>.int .i64 n) rfl R5 xa.out (by intro u hu;simp at hu;obtain ⟨n,_,rfl⟩:=hu;rfl) Q5 R4 (L1c _) ?_))
 intro v1 w1 hown1 hgrow1 _
 try simp only [Nat.zero_add,List.nil_append] at hown1
 have xe:=hid hown1;have xg:Hid (L0d w w1):=hid ⟨hgrow1.os,hgrow1.tape,hgrow1.output,hgrow1.size,fun k hk=>hgrow1.block k hk (by simp [Value.ownBlock])⟩;have xk:=hgrow1.size;clear hown1 hgrow1;go_wp2_with (at_builtin;go_must (refine A9 _ rfl (.tmp 7) (.tmp 8) 24 rfl w.heap.size 3 i3 _ 1 8 underlying24 HI.out HZ.out xd.out xc.out rfl R3 v1 l.length (l.map fun n=>.int .i64 n) rfl (xe.out.alloc _) (some ⟨w1.heap.size,0,none⟩) 2 2 [.int .i64 (-7070),.int .i64 (-7070)] rfl rfl (fun _=>⟨_,rfl,World.news_of_block (cs:=#[.int .i64 (-7070),.int .i64 (-7070)]) (t:=3) (fr:=(0,0)) (B1 R5)⟩) (by simp [Value.oneCell']) Q5 R4 Q8 ?_))
 intro v2 w2 hown2 hgrow2 _;obtain⟨g2,cap2,xh,_,_⟩:=hown2.form R4;subst xh;have xl:l.length+2<=cap2:=by
  rcases hown2.2 with ⟨h0,_⟩ | ⟨_,_,_,hv,_,_,h3,_⟩
  ·cases h0
  ·cases hv;exact h3
 have xi:=hid hown2;have xj:=hid (M8 (L3a xg.out xk _) (xe.out.alloc _) hgrow2);have xm:(l.length:Int)<=(cap2:Int):=by omega
 clear hown2 hgrow2;go_wp2_with fail;go_ret;exact⟨g2,cap2,rfl,xi.out,xj.out⟩
section
variable {R:McR} {g:PgR} {mb:Nat} {own:Own} {w:World}
def kS (own:Own) (mb:Nat) (g:PgR) (R:McR) (l:List Int) (w:World) (e:Ending) (w':World):Prop :=
 ∃own' dv,e=.returned (.int .i64 0)/\A4 w' own' mb g { R with dv:=dv,dr:=R.dr++l }/\A2 own w own' w'
theorem a0p {l:List Int} {W w5:World} {v:Value} (hm:A4 w own mb g R) (hB:L0d w W) (hgrow:W.grownBy w5 R.dv.ownBlock)
  (hown:w5.ownsRow 0 3 1 v (R.dr.length+l.length) ((R.dr.map fun n=>.int .i64 n)++l.map fun n=>.int .i64 n)) (hat:∀gb,v.ownBlock=some gb->R.dv.ownBlock=some gb\/gb=W.heap.size) :
  w5.frozen? ⟨mb,5,none⟩=false/\w5.cell? ⟨mb,5,none⟩=some R.dv/\mb < w5.heap.size/\kS own mb g R l w (.returned (.int .i64 0)) (w5.setCell ⟨mb,5,none⟩ v):=by
 have xi:mb < w.heap.size:=hm.lt mb _ hm.me;have xc:∀b,R.dv.ownBlock=some b->own b=some .draws:=hm.draws.2
 have xh:R.dv.ownBlock≠some mb:=fun e=>by have:=xc mb e;rw [hm.me] at this;cases this
 have xj:v.ownBlock≠some mb:=fun e=>by
  rcases hat mb e with h1 | h1
  ·exact xh h1
  ·have:=hB.size;omega
 have xe:w.heap.size<=w5.heap.size:=L5a hB.size hgrow.size;have xf:E3 w own v .draws:=fun b hb=>by
  rcases hat b hb with h1 | h1
  ·exact L4a (xc b h1)
  ·exact L4b (by have:=hB.size;omega)
 have xb:∀k,k < w.heap.size->own k≠some .draws->w5.heap[k]?=w.heap[k]?:=fun k hk ho=>by
  rw[hgrow.block k (L0a hk hB.size) (fun e=>ho (xc k e.symm)),hB.block k hk]
 have xa:=xb mb xi (by rw [hm.me];simp);have xg:∀j,w5.frozen? ⟨mb,j,none⟩=false:=fun j=>by rw [L0c (w:=w) (a:=⟨mb,j,none⟩) xa];exact hm.fz j
 have xk:w5.cell? ⟨mb,5,none⟩=some R.dv:=by rw [L0b (w:=w) (a:=⟨mb,5,none⟩) xa];exact hm.c5
 have xd:mb < w5.heap.size:=by omega
 have hM:A4 (w5.setCell ⟨mb,5,none⟩ v) (own.upd v.ownBlock .draws) mb g { R with dv:=v,dr:=R.dr++l }:=by
  refine A4.setDraws (v:=v) (l:=R.dr++l) hm (by simpa using xe) (fun k hk h1 h2=>?_) (fun j hj=>?_) ?_ (fun j=>?_) ?_ xf
  ·rw [heap_setCell_other _ _ _ _ h1];exact xb k hk h2
  ·rw [<- L0b (w:=w) (w':=w5) (a:=⟨mb,j,none⟩) xa]
   go_simp
  ·go_simp
  ·have:=xg j
   go_simp
  ·have:=ownsRow_setCell_other hown (a:=⟨mb,5,none⟩) xj v
   simpa using this
 refine⟨xg 5,xk,xd,own.upd v.ownBlock .draws,v,rfl,hM,⟨?_,?_,?_,by simpa using xe,fun k hk hno=>?_,fun k hk=>Own.upd_old xf hk⟩⟩
 ·exact hgrow.os.trans hB.os
 ·exact hgrow.tape.trans hB.tape
 ·exact hgrow.output.trans hB.output
 ·rw [heap_setCell_other _ _ _ _ (fun e=>by rw [e,hm.me] at hno;cases hno)]
  exact xb k hk (by rw [hno];simp)
def a5A (w:World) (a:Option Addr) (l:List Int):Prop:=0 < l.length->∃b o,a=some ⟨b,o,none⟩/\b < w.heap.size/\∀(i:Nat) (x:Int),l[i]?=some x->w.cell? ⟨b,o+i,none⟩=some (.int .i64 x)
theorem pB (h:A4 w own mb g R) (a:Option Addr) (c:Nat) (l:List Int) (hl:a5A w a l) (hn:R.dr.length+l.length<=200) :
  Calls prog 101 #[.pointer (some ⟨mb,4,none⟩),.slice a l.length c] w fun e w'=>kS own mb g R l w e w':=by
 have c5:=h.c5;have xm:mb < w.heap.size:=h.lt mb _ h.me;have xc:∃xf cc,R.dv=.slice xf R.dr.length cc:=by
  rcases h.draws.1.2 with ⟨e,e0⟩ | ⟨gb,xi,_,e,_⟩
  ·exact ⟨none,0,by rw [e,e0]⟩
  ·exact ⟨_,_,e⟩
 obtain⟨xf,cc,xb⟩:=xc;have HO:=hid h.draws.1;rw[xb] at c5;have xg:=hid xb;have HH:=hid h;have xa:Hid (∀W,L0d w W->0 < l.length->∃d,a=some d/\∀j u,(l.map fun n=>Value.int .i64 n)[j]?=some u->W.cell? (d.add j)=some u):=fun W hW h0=>by
  obtain⟨b,o,h1,h2,h3⟩:=hl h0;refine⟨_,h1,fun j u hu=>?_⟩;rw[List.getElem?_map] at hu;obtain⟨x,hx,rfl⟩:=Option.map_eq_some_iff.1 hu;have:=(hW.cell (p:=⟨b,o+j,none⟩) h2).trans (h3 j x hx)
  cases j with
  | zero=>simpa [Addr.add] using this
  | succ j=>simpa [Addr.add] using this
 have xo:¬(200:Int) < (R.dr.length:Int)+(l.length:Int):=by omega
 have xn:IntKind.i64.wrap ((R.dr.length:Int)+(l.length:Int))=(R.dr.length:Int)+(l.length:Int):=Go.IntWalk.i64_in _ R4;clear h xb hl;obtain⟨i3,hi,hz,xh,xd⟩:=info_parts dW;have HI:=hid hi;have HZ:=hid hz;have xl:=hid xh;have xk:=hid xd;clear hi hz xh xd;go_enter func101,ntmps101;go_wp2_with (at_builtin;go_must (refine A9 _ rfl (.tmp 18) (.tmp 19) 24 rfl 0 3 i3 _ 1 8 underlying24 HI.out HZ.out xl.out xk.out rfl R3 R.dv R.dr.length (R.dr.map fun n=>.int .i64 n) (by rw [xg.out];rfl) HO.out a l.length c (l.map fun n=>.int .i64 n) rfl R5 (xa.out _ (L3b _ _)) (by intro u hu;obtain ⟨n,_,rfl⟩:=List.mem_map.1 hu;rfl) Q5 R4 (L4c _) ?_))
 intro v' w5 hown5 hgrow5 hat5;obtain⟨y0,y1,y2,hP⟩:=a0p HH.out (L3b _ _) hgrow5 hown5 hat5;have HP:=hid hP;rw[xg.out] at y1;obtain⟨xe,cc5,xj⟩:∃xe cc5,v'=.slice xe (R.dr.length+l.length) cc5:=by
  rcases hown5.2 with ⟨e,e0⟩ | ⟨gb,xi,_,e,_⟩
  ·exact ⟨none,0,by rw [e,e0]⟩
  ·exact ⟨_,_,e⟩
 subst xj;clear hown5 hgrow5 hat5 hP;go_wp2_with fail;go_ret;exact HP.out
theorem a1S (h:A4 w own mb g R) (a:Option Addr) (c:Nat) (l:List Int) (hl:a5A w a l) (hn:R.dr.length+l.length<=200) :
  Calls prog 62 #[.pointer (some ⟨mb,0,none⟩),.slice a l.length c] w fun e w'=>kS own mb g R l w e w':=by
 have HA:=hid (pB h a c l hl hn);have xb:mb < w.heap.size:=h.lt mb _ h.me;clear h hl;go_enter func62,ntmps62;go_wp2_with (go_at_call 101;refine HA.out.mono ?_;rintro e w2 ⟨xa,dv,rfl,hm,ht⟩)
 go_ret;exact⟨xa,dv,rfl,hm,ht⟩
theorem nB (h:A4 w own mb g R) (a:Option Addr) (n c:Nat) (hn:n<=4611686018427387904) (hd:R.dr.length<=1000) (hl:200 < R.dr.length+n) :
  Calls prog 101 #[.pointer (some ⟨mb,4,none⟩),.slice a n c] w fun e w'=>e=.returned (.int .i64 6)/\w'=w:=by
 have c5:=h.c5;have xe:mb < w.heap.size:=h.lt mb _ h.me;obtain⟨xb,cc,xa⟩:∃xb cc,R.dv=.slice xb R.dr.length cc:=by
  rcases h.draws.1.2 with ⟨e,e0⟩ | ⟨gb,xc,_,e,_⟩
  ·exact ⟨none,0,by rw [e,e0]⟩
  ·exact ⟨_,_,e⟩
 rw[xa] at c5;have xd:(200:Int) < (R.dr.length:Int)+(n:Int):=by omega
 generalize R.dr.length=nd at *
 clear h xa;go_enter func101,ntmps101;go_wp2_with fail;go_ret;exact⟨rfl,rfl⟩
theorem zV (h:A4 w own mb g R) (a:Option Addr) (n c:Nat) (hn:n<=4611686018427387904) (hd:R.dr.length<=1000) (hl:200 < R.dr.length+n) :
  Calls prog 62 #[.pointer (some ⟨mb,0,none⟩),.slice a n c] w fun e w'=>e=.returned (.int .i64 6)/\w'=w:=by
 have HA:=hid (nB h a n c hn hd hl);clear h hn hd hl;go_enter func62,ntmps62;go_wp2_with (go_at_call 101;refine HA.out.mono ?_;rintro e w2 ⟨rfl,hw⟩;rw [hw];clear hw w2)
 go_ret;exact⟨rfl,rfl⟩
end
theorem jM {w:World} {B b c lc:Nat} {la:Option Addr} {l:List Int} (_hB:B<=w.heap.size) (hn:l.length<=10000000) (hr:w.ownsRow B 3 1 (.slice (some ⟨b,0,none⟩) (l.length+2) c) (l.length+2) ((l.map fun n=>.int .i64 n)++[.int .i64 (-7070),.int .i64 (-7070)])) (hl:J2 w la l) :
  Calls prog 18 #[.slice (some ⟨b,0,none⟩) l.length c,.slice la l.length lc] w fun e w'=>e=.returned (.bool true)/\But (·=b) w w':=by
 obtain⟨xu,xi⟩:=hr.lt b rfl;have xf:l.length+2<=c/\c<=maxLen:=by
  rcases hr.2 with ⟨h0,_⟩ | ⟨_,_,_,hv,_,_,h3,h4,_⟩
  ·cases h0
  ·cases hv;exact ⟨h3,h4⟩
 have xl:∀j,w.frozen? ⟨b,j,none⟩=false:=fun j=>by
  rcases hr.2 with ⟨h0,_⟩ | ⟨_,_,_,hv,_,hg,_⟩
  ·cases h0
  ·cases hv;simp [World.frozen?,hg]
 have xj:∀j u,((l.map fun n=>Value.int .i64 n)++[.int .i64 (-7070),.int .i64 (-7070)])[j]?=some u->w.cell? ⟨b,j,none⟩=some u:=fun j u hu=>by
  have hj:=(L1a.1 hu).1;simp at hj;rw[hr.cellAt j R4];exact hu
 have b0:w.cell? ⟨b,l.length,none⟩=some (.int .i64 (-7070)):=xj _ _ (by rw [List.getElem?_append_right R5];simp);have b1:w.cell? ⟨b,l.length+1,none⟩=some (.int .i64 (-7070)):=xj _ _ (by rw [List.getElem?_append_right R5];simp);have xw:(l.length:Int)+2<=(c:Int):=by omega
 have xm:=xf.2;unfold maxLen at xm;have HF:=hid xl;have HC:=hid xj;have HL:=hid hl;clear hr xj hl xl xf;go_enter func18,ntmps18;go_wp2_with fail;go_loopw [6,7] (fun v vi wr=>∃i:Nat,i<=l.length/\vi=.int .i64 i/\v=.bool true/\L0d w wr) (fun _ vi _=>l.length - (intOf vi).toNat)
 case atStart=>exact ⟨0,L4c _,rfl,rfl,L3b _ _⟩
 case round =>
  obtain⟨i,hi,rfl,rfl,xb⟩:=hrel;have xa:=hid xb;by_cases hlt:i < l.length
  ·obtain ⟨x,hx⟩:∃x,l[i]?=some x:=⟨_,L1b hlt⟩
   obtain⟨b2,o2,rfl,xp,xd⟩:=HL.out R4;have x1:=keep xb xi (HC.out i (.int .i64 x) (by rw [List.getElem?_append_left (by simpa using hlt),List.getElem?_map,hx];rfl));have x2:=keep xb xp (xd i x hx);have xk:(i:Int) < (l.length:Int):=by omega
   have xq:(i:Int) < (l.length:Int)+2:=by omega
   clear xb xd hx;go_wp2_with fail;go_region
   all_goals go_wp2_with fail
   all_goals go_roundw
   case rel=>exact ⟨i+1,by omega,by go_num,rfl,by repeat (first | exact xa.out | refine L3c ?_)⟩
   case measure=>simp [intOf];omega
  ·obtain rfl:i=l.length:=by omega
   have xv:¬(l.length:Int) < (l.length:Int):=by omega
   clear xb;go_wp2_with fail;go_loopw [8] (fun vi wr2=>∃i:Nat,i<=l.length+2/\vi=.int .i64 i/\But (·=b) w wr2/\(∀j,j < l.length+2->∃z,wr2.cell? ⟨b,j,none⟩=some z)/\∀j,wr2.frozen? ⟨b,j,none⟩=false) (fun vi _=>l.length+2 - (intOf vi).toNat)
   case atStart=>exact ⟨0,L4c _,rfl,⟨xa.out.os,xa.out.tape,xa.out.output,xa.out.size,fun k hk _=>xa.out.block k hk⟩,fun j hj=>⟨_,keep xa.out xi (HC.out j _ (L1b Q8))⟩,fun j=>B9 xa.out xi (HF.out j)⟩
   case round =>
    obtain⟨i,hi,rfl,xc,xh,xg⟩:=hrel;have xe:=hid xc;have xn:=hid xh;have xr:=hid xg;have xs:b < wr.heap.size:=L0a xi xc.size;by_cases hlt:i < l.length+2
    ·obtain ⟨z,hz⟩:=xh i hlt
     have hf:=xg i;have xk:(i:Int) < (l.length:Int)+2:=by omega
     clear xc xh xg;go_wp2_with fail;go_roundw
     case rel =>
      refine⟨i+1,by omega,by go_num,xe.out.setCell (p:=⟨b,i,none⟩) (L4a rfl) _,fun j hj=>?_,fun j=>?_⟩
      ·by_cases e:j=i
       ·subst e;exact ⟨_,World.cell?_setCell_same _ _ _ hz⟩
       ·obtain ⟨z',xt⟩:=xn.out j hj
        exact⟨z',(World.cell?_setCell_other _ _ _ _ (fun e'=>e (by simp only [Addr.mk.injEq] at e';omega))).trans xt⟩
      ·have:=xr.out j
       go_simp
     case measure=>simp [intOf];omega
    ·obtain rfl:i=l.length+2:=by omega
     clear xc xh xg;have xo:¬((l.length+2:Nat):Int) < (l.length:Int)+2:=by omega
     go_wp2_with fail;go_ret;exact⟨rfl,xe.out⟩
section
variable {g:PgR}
theorem D4.draw {t:McA} (h:D4 g t) (l:List Int) (hl:t.dr.length+l.length<=200):D4 g { t with dr:=t.dr++l } :=
 ⟨h.run,h.frs,h.depth,h.vals,h.obs,h.cap,h.out,by show (t.dr++l).length<=200;rw [List.length_append];exact hl⟩
theorem Is.draw {t:McA} {R:McR} (h:Is g t R) (l:List Int) (dv:Value):Is g { t with dr:=t.dr++l } { R with dv:=dv,dr:=R.dr++l }:=by
 obtain⟨rfl,hn⟩:=h;exact⟨rfl,hn⟩
theorem RV.draw {R:RfR} {t:McA} (h:RV g R t) (l:List Int) (hl:t.dr.length+l.length<=200) (da:Option Addr) (dc:Nat):RV g { R with da:=da,dc:=dc,dr:=R.dr++l } { t with dr:=t.dr++l } :=
 ⟨h.v.draw l,h.i.draw l hl,h.th,h.cap⟩
end
section
variable {R:RfR} {W:World} {g:PgR} {l:List Int} {mb:Nat} {own:Own}
def aL (l:List Int):List Value:=l.map fun n=>.int .i64 n
theorem J2.src {a:Option Addr} (h:J2 W a l):0 < l.length->∃d,a=some d/\∀j u,(aL l)[j]?=some u->W.cell? (d.add j)=some u:=fun h0=>by
 obtain⟨b,o,rfl,hb,hc⟩:=h h0;refine⟨_,rfl,fun j u hu=>?_⟩;unfold aL at hu;rw[List.getElem?_map] at hu
 cases e:l[j]? with
 | none=>rw [e] at hu;cases hu
 | some x =>
  rw[e] at hu
  cases hu;have e2:(⟨b,o,none⟩:Addr).add j=⟨b,o+j,none⟩:=by unfold Addr.add;split <;> simp_all
  rw[e2];exact hc j x e
theorem a0T {B:Nat} {v:Value} (h:W.ownsRow B 3 1 v l.length (aL l)):∃a c,v=.slice a l.length c/\l.length<=c/\J2 W a l/\∀b o,a=some ⟨b,o,none⟩->B<=b/\b < W.heap.size:=by
 rcases id h.2 with ⟨rfl,h0⟩ | ⟨g,xa,xb,rfl,hB,hg,h3,h4,h5,h6⟩
 ·exact ⟨none,0,by rw [h0],by omega,fun hp=>by omega,fun b o e=>by cases e⟩
 ·refine ⟨_,xa,rfl,h3,fun _=>⟨g,0,rfl,(L2b.1 hg).1,fun i x hx=>?_⟩,fun b o e=>by cases e;exact ⟨hB,(L2b.1 hg).1⟩⟩
  have hi:=(L1a.1 hx).1;have h7:(aL l)[i]?=some (.int .i64 x):=by unfold aL;rw [List.getElem?_map,hx];rfl
  rw[<- h6,List.getElem?_take,if_pos R4] at h7;rw[Nat.zero_add];simp only[World.cell?,hg];simpa using h7
theorem xI (h:A8 W own mb g R) (la:Option Addr) (n c:Nat) (hn:n<=4611686018427387904) (hd:R.dr.length<=1000) (hl:200 < R.dr.length+n) :
  Calls prog 63 #[.pointer (some ⟨mb,0,none⟩),.slice la n c] W fun e w'=>e=.returned (.int .i64 6)/\w'=W:=by
 have xb:=h.lt _ _ h.me;have m6:=h.c6;have xa:(200:Int) < (R.dr.length:Int)+(n:Int):=by omega
 generalize R.dr.length=nd at *
 clear h;go_enter func63,ntmps63;go_wp2_with fail;go_ret;exact⟨rfl,rfl⟩
theorem a3i {R:RfR} (h:A8 W own mb g R) (la:Option Addr) (l:List Int) (c:Nat) (hla:J2 W la l) (hl:R.dr.length+l.length<=200) :
  Calls prog 63 #[.pointer (some ⟨mb,0,none⟩),.slice la l.length c] W fun e w'=>e=.returned (.int .i64 0)/\∃da dc,A8 w' own mb g { R with da:=da,dc:=dc,dr:=R.dr++l }/\A2 own W own w'/\∀b o,da=some ⟨b,o,none⟩->W.heap.size<=b:=by
 obtain⟨i3,hi,hz,xl,xh⟩:=info_parts dW;have HI:=hid hi;have HZ:=hid hz;have xj:=hid xl;have xi:=hid xh;have xe:=h.lt _ _ h.me;have m6:=h.c6;have z6:=h.fz 6;have M6:=hid m6;have Z6:=hid z6;have xu:¬(200:Int) < (R.dr.length:Int)+(l.length:Int):=by omega
 have xr:=hid h.draws;have xp:=hid hla;have HH:=hid h;clear h hla hi hz xl xh;go_enter func63,ntmps63;go_wp2_with (at_builtin;go_must (refine A9 _ rfl (.tmp 15) (.tmp 19) 24 rfl W.heap.size 3 i3 _ 1 8 underlying24 HI.out HZ.out xj.out xi.out rfl R3 _ 0 [] rfl (World.ownsRow_nil _ _ _ _) R.da R.dr.length R.dc (aL R.dr) rfl (by simp [aL]) xr.out.src (by intro u hu;obtain ⟨q,_,rfl⟩:=List.mem_map.1 hu;rfl) Q5 R4 (L1c _) ?_))
 intro v2 w2 hown2 hgrow2 _;have xf:L0d W w2:=Below.grown (L3b _ _) hgrow2 (L1c _) (fun q e=>by cases e);have xm:=hid xf;have xk:Hid (w2.ownsRow W.heap.size 3 1 v2 R.dr.length (aL R.dr)):=hid (by simpa using hown2);have n6:=keep xf xe M6.out;have y6:=B9 xf xe Z6.out;have xn:mb < w2.heap.size:=L0a xe xf.size;have xs:W.heap.size<=w2.heap.size:=xf.size
 clear hown2 hgrow2 xf;go_wp2_with (at_builtin;go_must (refine A9 _ rfl (.tmp 22) (.tmp 23) 24 rfl W.heap.size 3 i3 _ 1 8 underlying24 HI.out HZ.out xj.out xi.out rfl R3 v2 R.dr.length (aL R.dr) rfl xk.out la l.length c (aL l) rfl (by simp [aL]) (xp.out.later xm.out).src (by intro u hu;obtain ⟨q,_,rfl⟩:=List.mem_map.1 hu;rfl) Q5 R4 xs ?_))
 intro v3 w3 hown3 hgrow3 _;have xb:=M8 xm.out xk.out hgrow3;have xa:w3.ownsRow W.heap.size 3 1 v3 (R.dr++l).length (aL (R.dr++l)):=by
  rw[List.length_append,show aL (R.dr++l)=aL R.dr++aL l by simp [aL]];exact hown3
 obtain⟨da,dc,xo,xt,xc,xd⟩:=a0T xa;subst xo;have hF:=(HH.out.same xb).setDraws da dc (R.dr++l) xt xc (fun b o e=>by
  obtain⟨q1,q2⟩:=xd b o e;refine⟨q2,?_⟩
  cases e2:own b with
  | none=>rfl
  | some t=>have:=HH.out.lt b t e2;omega)
 have xg:=hid fun b o e=>(xd b o e).1
 have HF:=hid hF;have p6:=keep xb xe M6.out;have x6:=B9 xb xe Z6.out;have xq:mb < w3.heap.size:=L0a xe xb.size;have HT:Hid (A2 own W own (w3.setCell ⟨mb,6,none⟩ (.slice da (R.dr++l).length dc))):=hid ⟨xb.os,xb.tape,xb.output,by simpa using xb.size,fun k hk hn=>by
  rw[heap_setCell_other _ _ _ _ (fun e=>by rw [e,HH.out.me] at hn;cases hn)];exact xb.block k hk,fun _ _=>rfl⟩
 clear hown3 hgrow3 xb xa xc xd hF;go_wp2_with fail;go_ret;exact⟨rfl,da,dc,by simpa using HF.out,by simpa using HT.out,xg.out⟩
end
section
variable {M N yb:Nat} {P:A3} {Y:PlR} {w w':World} {w0:L7}
theorem Lw.but {b:Nat} (h:Lw w0 P w yb Y N M) (hB:But (·=b) w w') (hb:∀i,¬(P i).B b) (h0:b≠0) (hb0:¬(b < w0.w.heap.size/\w0.F b)):Lw w0 P w' yb Y N M :=
 ⟨h.sep.later hB.size fun k hk hq=>hB.block k hk fun e=>by
  have e':k=b:=e;subst e';rcases hq with ⟨i,hi⟩ | hq
  ·exact hb i hi
  ·exact h0 hq,h.p0,h.law,h.pair,h.len,h.nps,⟨hB.os.trans h.bel.os,hB.tape.trans h.bel.tape,hB.output.trans h.bel.output,L5a h.bel.size hB.size,fun k hk hF=>(hB.block k (L0a hk h.bel.size) fun e=>hb0 (by have e':k=b:=e;subst e';exact ⟨hk,hF⟩)).trans (h.bel.block k hk hF)⟩,h.lo⟩
theorem xN {own:Own} {mb:Nat} {g:PgR} {R R':RfR} (hT:A2 own w own w') (hda:∀b q,R'.da=some ⟨b,q,none⟩->w.heap.size<=b) :
  (∀k,k < w.heap.size->¬(cR own mb g R).B k->w'.heap[k]?=w.heap[k]?)/\∀k,(cR own mb g R').B k->(cR own mb g R).B k\/w.heap.size<=k:=by
 refine⟨fun k hk hn=>hT.block k hk (Decidable.byContradiction fun e=>hn (L4a e)),fun k hk=>?_⟩;rcases hk with hk | hk | ⟨o,hk⟩
 ·exact L4a (L4a hk)
 ·exact L4a (L4b (L4a hk))
 ·exact L4b (hda k o hk)
theorem a0U {i xb cb:Nat} (h:Lw w0 P w yb Y N M) (hi:Y.ps[i]?=some (xb,cb)) (l:List Int) (hl:l.length<=10000000) :
  ∃n:Int,∀U,L0d w U->∀a c,J2 U a l->Calls Tryz.prog 62 #[.pointer (some ⟨xb,0,none⟩),.slice a l.length c] U fun e w1=>e=.returned (.int .i64 n)/\U.heap.size<=w1.heap.size/\(∀k,k < U.heap.size->w.heap.size<=k->w1.heap[k]?=U.heap[k]?)/\oU w0 w1 /\
   ∀V,L0d w1 V->∀la lc,J2 V la l->Calls Tryz.prog 63 #[.pointer (some ⟨cb,0,none⟩),.slice la l.length lc] V fun e w2=>e=.returned (.int .i64 n)/\V.heap.size<=w2.heap.size/\(∀k,k < V.heap.size->w.heap.size<=k->w2.heap[k]?=V.heap[k]?)/\∃P2,Lw w0 P2 w2 yb Y N M/\∀j k,(P2 j).B k->k < w.heap.size\/U.heap.size<=k:=by
 obtain⟨ox,gx,RX,oc,gc,RC,t,h1,h2,h3,h4,h5,h6,h7,h8⟩:=(h.pair i (xb,cb) hi).ex;have xg:RX.dr=t.dr:=by rw [<- h3.abs];rfl
 have xf:RC.dr=t.dr:=h7.v.dr.symm;have xj:t.dr.length<=200:=h4.dr;have xm:A4 w ox xb gx RX:=by have:=h.sep.F (1,i);rw [h1] at this;exact this
 have xv:A8 w oc cb gc RC:=by have:=h.sep.F (2,i);rw [h2] at this;exact this
 have xr:∀k,w.heap.size<=k->ox k=none:=fun k hk=>by
  cases e:ox k with
  | none=>rfl
  | some q=>have:=xm.lt k q e;omega
 have xw:∀k,w.heap.size<=k->oc k=none:=fun k hk=>by
  cases e:oc k with
  | none=>rfl
  | some q=>have:=xv.lt k q e;omega
 have xd:∀j k,(P j).B k->k < w.heap.size:=fun j k hk=>(P j).lt w (h.sep.F j) k hk
 by_cases hle:t.dr.length+l.length<=200
 ·refine ⟨0,fun U hU a c hla=>?_⟩
  have xh:=h.below hU;have hM:A4 U ox xb gx RX:=by have:=xh.sep.F (1,i);rw [h1] at this;exact this
  refine (a1S hM a c l hla (by rw [xg];exact hle)).mono ?_;rintro e w1 ⟨xa,dv,rfl,xq,hT⟩;obtain⟨k1,k2⟩:=bT (R':={ RX with dv:=dv,dr:=RX.dr++l }) hM hT;have xn:=xh.sep.upd (1,i) (U0 xa xb gx { RX with dv:=dv,dr:=RX.dr++l }) hT.size (by rw [h1];exact k1) xq (by rw [h1];exact k2);have xl:Stp P U (P.put (1,i) (U0 xa xb gx { RX with dv:=dv,dr:=RX.dr++l })) w1:=Stp.one (1,i) _ hT.os hT.tape hT.output hT.size (by rw [h1];exact k1) (by rw [h1];exact k2)
  refine⟨rfl,hT.size,fun k hk hk2=>hT.block k hk (xr k hk2),(aX h.bel h.lo ((Stp.below hU).trans xl)).1,fun V hV la lc hlaV=>?_⟩;have xi:=xn.below hV;have e2:(P.put (1,i) (U0 xa xb gx { RX with dv:=dv,dr:=RX.dr++l })) (2,i)=cR oc cb gc RC:=by rw [A3.put_ne _ (H5 R3 _ _)];exact h2
  have hR:A8 V oc cb gc RC:=by
   have:=xi.F (2,i);rw[e2] at this;exact this
  refine (a3i hR la l lc hlaV (by rw [xf];exact hle)).mono ?_;rintro e w2 ⟨rfl,da,dc,xp,xc,xt⟩;obtain⟨q1,q2⟩:=xN (g:=gc) (mb:=cb) (R:=RC) (R':={ RC with da:=da,dc:=dc,dr:=RC.dr++l }) xc xt;have xs:=xi.upd (2,i) (cR oc cb gc { RC with da:=da,dc:=dc,dr:=RC.dr++l }) xc.size (by rw [e2];exact q1) xp (by rw [e2];exact q2);have xe:=Stp.one (P:=P.put (1,i) (U0 xa xb gx { RX with dv:=dv,dr:=RX.dr++l })) (2,i) (cR oc cb gc { RC with da:=da,dc:=dc,dr:=RC.dr++l }) xc.os xc.tape xc.output xc.size (by rw [e2];exact q1) (by rw [e2];exact q2)
  have xo:=hT.size;have xu:=hV.size;refine⟨rfl,xc.size,fun k hk hk2=>xc.block k hk (xw k hk2),_,h.put2 (L1c _) hi xs (((Stp.below hU).trans xl).trans ((Stp.below hV).trans xe)) ⟨xa,gx,_,oc,gc,_,{ t with dr:=t.dr++l },?_,A3.put_same _ _ _,h3.draw l dv,h4.draw l hle,h5,h6,h7.draw l hle da dc,h8⟩,fun j k hk=>?_⟩
  ·rw [A3.put_ne _ (H5 R3 _ _),A3.put_same]
  ·by_cases ej:j=(2,i)
   ·rw [ej,A3.put_same] at hk
    rcases q2 k hk with hq | hq
    ·exact L4a (xd (2,i) k (by rw [h2];exact hq))
    ·exact L4b R4
   ·rw [A3.put_ne _ ej] at hk
    by_cases ej2:j=(1,i)
    ·rw [ej2,A3.put_same] at hk
     rcases k2 k hk with hq | hq
     ·exact L4a (xd (1,i) k (by rw [h1];exact hq))
     ·exact L4b hq
    ·rw [A3.put_ne _ ej2] at hk
     exact L4a (xd j k hk)
 ·refine ⟨6,fun U hU a c hla=>?_⟩
  have hM:A4 U ox xb gx RX:=by have:=(h.below hU).sep.F (1,i);rw [h1] at this;exact this
  refine (zV hM a l.length c R4 (by rw [xg];omega) (by rw [xg];omega)).mono ?_;rintro e w1 ⟨rfl,rfl⟩;refine⟨rfl,L1c _,fun k _ _=>rfl,(h.below hU).bel,fun V hV la lc hlaV=>?_⟩;have xk:L0d w V:=hU.trans (hV.mono hU.size);have hR:A8 V oc cb gc RC:=by have:=(h.below xk).sep.F (2,i);rw [h2] at this;exact this
  refine (xI hR la l.length lc R4 (by rw [xf];omega) (by rw [xf];omega)).mono ?_;rintro e w2 ⟨rfl,rfl⟩;exact⟨rfl,L1c _,fun k _ _=>rfl,P,h.below xk,fun j k hk=>L4a (xd j k hk)⟩
end
section
variable {w:World}
theorem a0D {B b c:Nat} {l:List Int} {ys:List Value} {m:Nat} (h:w.ownsRow B 3 1 (.slice (some ⟨b,0,none⟩) (l.length+m) c) (l.length+m) ((l.map fun n=>.int .i64 n)++ys)):J2 w (some ⟨b,0,none⟩) l:=fun _=>by
 refine⟨b,0,rfl,(h.lt b rfl).2,fun i x hx=>?_⟩;have hi:=(L1a.1 hx).1;rw[Nat.zero_add,h.cellAt i R4,List.getElem?_append_left (by simpa using hi),List.getElem?_map,hx];rfl
theorem a4M {w0:L7} {P:A3} {yb N M i xb cb:Nat} {Y:PlR} (h:Lw w0 P w yb Y N M) (hi:Y.ps[i]?=some (xb,cb)) (a b:Int) (l:List Int) (hl:l.length<=10000000) (fa la sa:Option Addr) (fn fc lc sn sc:Nat) (hla:∀V,oU w0 V->J2 V la l) :
  Calls prog 35 #[.pointer (some ⟨yb,0,none⟩),.agg #[.pointer (some ⟨xb,0,none⟩),.pointer (some ⟨cb,0,none⟩)],.agg #[.int .i64 7,.int .i64 a,.int .i64 b,.slice fa fn fc,.slice la l.length lc,.slice sa sn sc]] w fun e w'=>e=.returned (.bool true)/\∃P2,Lw w0 P2 w' yb Y N M:=by
 obtain⟨n,xe⟩:=a0U h hi l hl;have HR:=hid xe;have yc:Hid (∀U,L0d w U->Calls prog 14 #[.slice la l.length lc] U fun e w'=>a5z l U e w'):=hid fun U hU=>pY (hla U (h.below hU).bel) hl
 have xq:=hid hla;have xw:=h.sep.pos;have xp:Hid (w0.w.heap.size<=w.heap.size):=hid h.bel.size;clear xe h hi hla;go_enter func35,ntmps35;go_wp2_with (go_at_call 14;refine (yc.out _ P8).mono ?_)
 rintro e U ⟨lb,xm,rfl,xa,xd⟩;have u0:U.cell? ⟨w.heap.size,0,none⟩=some (.pointer (some ⟨xb,0,none⟩)):=keep xd Q8 Q9;have u1:U.cell? ⟨w.heap.size,1,none⟩=some (.pointer (some ⟨cb,0,none⟩)):=keep xd Q8 Q9;have u4:U.cell? ⟨w.heap.size+1,4,none⟩=some (.slice la l.length lc):=keep xd R5 Q9;have yh:w.heap.size+2<=U.heap.size:=by have:=xd.size;simp at this;omega
 have xs:w.heap.size < U.heap.size:=by omega
 have yd:Hid (L0d w U):=hid (Below.trans P8 (xd.mono Q8));have xi:=xa.lt lb rfl;have xg:w.heap.size<=lb:=by have:=xi.1;simp at this;omega
 have xk:lb < U.heap.size:=xi.2;have HO:=hid (D6 xa (L4c _));have xv:=hid (a0D xa);clear xa xd xi;go_wp2_with (go_at_call 62;refine (HR.out _ yd.out _ _ xv.out).mono ?_)
 rintro e w1 ⟨rfl,yg,xh,xn,xc⟩;have v1:w1.cell? ⟨w.heap.size,1,none⟩=some (.pointer (some ⟨cb,0,none⟩)):=(L0b (a:=⟨w.heap.size,1,none⟩) (xh _ xs (L1c _))).trans u1;have v4:w1.cell? ⟨w.heap.size+1,4,none⟩=some (.slice la l.length lc):=(L0b (a:=⟨w.heap.size+1,4,none⟩) (xh _ (by show w.heap.size+1 < _;omega) (by show _<=w.heap.size+1;omega))).trans u4;have ye:w.heap.size < w1.heap.size:=by omega
 have xl:w.heap.size+1 < w1.heap.size:=by omega
 have xz:Hid (w1.ownsRow 0 3 1 (.slice (some ⟨lb,0,none⟩) (l.length+2) xm) (l.length+2) ((l.map fun n=>.int .i64 n)++[.int .i64 (-7070),.int .i64 (-7070)])):=hid (A6 HO.out fun b hb=>by
  obtain rfl:lb=b:=by simpa [Value.ownBlock] using hb
  exact xh lb xk xg)
 have HC:=hid xc;have xx:=hid (xq.out w1 xn);clear xc xh xn u0 u1 u4;go_wp2_with (go_at_call 63;refine (HC.out _ (L3b _ _) _ _ xx.out).mono ?_)
 rintro e w2 ⟨rfl,yf,xj,P2,hL,xo⟩;have x4:w2.cell? ⟨w.heap.size+1,4,none⟩=some (.slice la l.length lc):=(L0b (a:=⟨w.heap.size+1,4,none⟩) (xj _ xl (by show _<=w.heap.size+1;omega))).trans v4;have xt:w.heap.size+1 < w2.heap.size:=by omega
 have ya:Hid (w2.ownsRow 0 3 1 (.slice (some ⟨lb,0,none⟩) (l.length+2) xm) (l.length+2) ((l.map fun n=>.int .i64 n)++[.int .i64 (-7070),.int .i64 (-7070)])):=hid (A6 xz.out fun b hb=>by
  obtain rfl:lb=b:=by simpa [Value.ownBlock] using hb
  exact xj lb R4 xg)
 have xy:=hid (xq.out w2 hL.bel);have HL:=hid hL;have xu:=hid xo;clear hL xo xj v1 v4;go_wp2_with (go_at_call 18;refine (jM (L4c _) hl ya.out xy.out).mono ?_)
 rintro e w3 ⟨rfl,xf⟩;have xr:=hid (HL.out.but xf (fun j hj=>by have:=xu.out j lb hj;omega) (by
  have:=xp.out;omega) (fun e=>by have:=xp.out;have:=e.1;omega))
 clear xf;go_wp2_with fail;go_ret;exact⟨rfl,P2,xr.out⟩
end
structure yT (w:World) (s:StR):Prop where
 ok:a2a w s
 ints:∃l:List Int,s.ln=l.length/\l.length<=10000000/\J2 w s.la l
theorem a1E {w0 w:World} {P:A3} {yb N M:Nat} {Y:PlR} (h:Lw ⟨w0,fun _=>True⟩ P w yb Y N M) (hN:N<=9999990000) (hM:M<=900000000) (ht:Tab w) (s:StR) (hs:a2a w s) (hl:∃l:List Int,s.ln=l.length/\l.length<=10000000/\J2 w0 s.la l) (k1:1<=s.k) (k8:s.k<=8) :
  Calls prog 11 #[.pointer (some ⟨yb,0,none⟩),.agg s.cells.toArray] w fun e w'=>e=.returned (.bool true)/\∃P2 Y2,Lw ⟨w0,fun _=>True⟩ P2 w' yb Y2 (N+10000) (M+100):=by
 obtain⟨k,a,b,g,la,ln,lc,sa,sn,sc⟩:=s;obtain⟨l,xf,xd,xe⟩:=hl;have xc:ln=l.length:=xf;subst xc;have xg:1<=k:=k1;have xh:k<=8:=k8;by_cases e:k=1
 ·subst e
  refine (a1G h hM g hs.pg hs.re ht a b la sa l.length lc sn sc).mono ?_;rintro e w' ⟨rfl,P2,Y2,hL⟩;exact⟨rfl,P2,Y2,hL.mono R4 R4⟩
 ·refine a3I h hN hM k a b hs.a R4 R4 g.a la sa g.n g.c l.length lc sn sc fun w1 P1 u i xb cb hF hL hi=>?_
  by_cases e7:k=7
  ·subst e7
   refine (a4M hL hi a b l xd g.a la sa g.n g.c lc sn sc fun V hV=>xe.later ?_).mono ?_
   ·have hB:=hF V hV
    exact⟨hB.os,hB.tape,hB.output,hB.size,fun q hq=>hB.block q hq trivial⟩
   ·rintro e w' ⟨rfl,P2,xa⟩
    exact⟨rfl,P2,Y,xa.mono R4 R4,rfl,rfl⟩
  ·by_cases e8:k=8
   ·subst e8
    refine (wR hL hi hN a b g.a la sa g.n g.c l.length lc sn sc).mono ?_;rintro e w' ⟨rfl,P2,xa⟩;exact⟨rfl,P2,Y,xa.mono R4 R4,rfl,rfl⟩
   ·exact a6d hL hi hN hM k a b R4 R4 g.a la sa g.n g.c l.length lc sn sc
theorem a0z {w:World} (ht:Tab w) {sa:Option Addr} {sc:Nat} {l:List StR} (hl:zZ w sa l) (hn:l.length<=900000) (hs:∀s,s∈l->yT w s) :
  Calls prog 4 #[.slice sa l.length sc] w fun e w'=>e=.returned (.bool true)/\L0d w w':=by
 have hB:L0d w (w.alloc (Obj.cells #[.int .i64 1,.int .i64 2,.int .i64 3,.int .i64 4,.int .i64 5,.int .i64 6,.int .i64 7,.int .i64 8] 3)):=L3a (L3b _ _) (L1c _) _;have hT:=ht.held hB.size (hB.block 0 ht.1);have HP:Hid (Calls prog 8 #[.slice sa l.length sc,.slice (some ⟨w.heap.size,0,none⟩) 8 8] (w.alloc (Obj.cells #[.int .i64 1,.int .i64 2,.int .i64 3,.int .i64 4,.int .i64 5,.int .i64 6,.int .i64 7,.int .i64 8] 3)) fun e w'=>e=.returned (.bool true)/\L0d w w'):=hid ((a0X (ks:=[1,2,3,4,5,6,7,8]) hT (hl.later hB) hn R3 R5 (fun j x hj=>by
  have xb:=(L1a.1 hj).1;simp only[List.length_cons,List.length_nil] at xb;have:j=0\/j=1\/j=2\/j=3\/j=4\/j=5\/j=6\/j=7:=by omega
  rcases this with rfl | rfl | rfl | rfl | rfl | rfl | rfl | rfl <;> (obtain rfl:=L5b hj;go_simp)) (fun s hm hk P U Y N M hN hM hL=>by
  obtain⟨q,q1,q2,q3⟩:=(hs s hm).ints;have xa:1<=s.k/\s.k<=8:=by simp at hk;omega
  exact a1E hL hN hM (hT.held hL.kept.size (hL.kept.block 0 hT.1)) s (((hs s hm).ok.later hB).later hL.kept) ⟨q,q1,q2,q3.later hB⟩ xa.1 xa.2)).mono fun e w' h=>⟨h.1,hB.trans (h.2.mono hB.size)⟩)
 clear hl hs ht hB hT;go_enter func4,ntmps4;go_wp2_with (go_at_call 8;refine HP.out.mono ?_;rintro e w1 ⟨rfl,hb⟩;have HB:=hid hb;clear hb)
 go_ret;exact⟨rfl,HB.out⟩
end Go.Proofs.YtbkmgoffiigdbaaGreatDoor
namespace Go.Proofs.YtbkmgoffiigdbaaGreatDoor
open Go.ChangeShapes Go.WideShapes Go.ChangeAt Go.RowKit Go.Proofs.Tryz
set_option maxHeartbeats 4000000
set_option maxRecDepth 100000
section
variable {H:Type} {W:World} {cs:List Value} {enc:TypeId × Value->H} {fuel:Nat} {x:DataW H × List MemPlace}
theorem rS (d:DataW H):1<=Rows.uptoBulk d:=by
 cases d with
 | lit l=>cases l <;> simp [Rows.uptoBulk]
 | nil=>simp [Rows.uptoBulk]
 | ptr d=>simp [Rows.uptoBulk]
 | slice elems spare=>simp [Rows.uptoBulk]
 | agg parts=>simp [Rows.uptoBulk]
 | iface t d=>simp [Rows.uptoBulk]
 | map entries=>simp [Rows.uptoBulk]
 | held h=>simp [Rows.uptoBulk]
theorem a2g {H:Type} {l:List (DataW H)} {d:DataW H} (h:d∈l):Rows.uptoBulk d<=Rows.uptoBulkAll l:=by
 induction l with
 | nil=>cases h
 | cons x r ih =>
  simp only[Rows.uptoBulkAll];rcases List.mem_cons.1 h with rfl | h
  ·omega
  ·have:=ih h;omega
theorem a1i (h:DataW.trod enc prog W 0 (fun _=>true) true fuel 24 cs=some x) (hb:Rows.uptoBulk x.1<=1048576) :
  ∃a c,∃l:List Int,cs=[.slice a l.length c]/\l.length<=10000000/\J2 W a l:=by
 rcases Go.Deep.open_slice underlying24 h with ⟨xf,_⟩ | ⟨a,len,xm,m,n,D,Pl,xf,_,xo,hm,xh,hx,xb⟩
 ·exact ⟨none,0,[],xf,by simp,fun h=>absurd h R5⟩
 ·simp only [if_true] at xh
  subst xh;rw[lG] at xb;have xj:x.1=.slice ((List.range len).map D) ((List.range (m - len)).map fun j=>D (len+j)):=by rw [hx]
  obtain⟨f,hf⟩:=Go.Deep.choose_lt (α:=Int) (n:=len) (p:=fun i s=>W.cells? 0 (a.add (i*1)) 1=some [.int .i64 s]) (fun i hi=>by
   obtain⟨xn,xl,xk⟩:=xb i R4;obtain⟨k,e0,_,_⟩:=DataW.trod_int underlying3 xk;exact⟨k,by rw [xl,e0]⟩)
  have xa:((List.range len).map f).length=len:=by simp
  have xi:len<=1048576:=by
   have h1:∀l:List (DataW H),l.length<=Rows.uptoBulkAll l:=fun l=>by
    induction l with
    | nil=>simp
    | cons d r ih =>
     have:=rS d;simp only[Rows.uptoBulkAll,List.length_cons];omega
   have h2:=h1 ((List.range len).map D);rw[xj] at hb;simp only[Rows.uptoBulk] at hb;simp only[List.length_map,List.length_range] at h2;omega
  refine⟨some a,m,(List.range len).map f,by rw [xa];exact xf,by rw [xa];omega,fun h0=>?_⟩;rw[xa] at h0;have xc:∀i,i < len->W.cell? (a.add (i*1))=some (.int .i64 (f i)):=fun i hi=>by
   have:=(World.cells?_some (hf i hi)).2.2 0 R3;simpa [Addr.add] using this
  have c0:=xc 0 h0;have xg:a.add (0*1)=a:=by simp [Addr.add]
  rw[xg] at c0;obtain⟨b,o,xe⟩:=a;have xd:xe=none:=World.cell?_spot c0;subst xd;refine⟨b,o,rfl,World.block_lt_of_cell? _ _ c0,fun i x hx=>?_⟩;have hi:=(L1a.1 hx).1;rw[xa] at hi;rw[List.getElem?_map,List.getElem?_range hi] at hx;obtain rfl:=L5b hx;have:=xc i hi;rw[add_plain,Nat.mul_one] at this;exact this
theorem mB (h:DataW.trod enc prog W 0 (fun _=>true) true fuel 43 cs=some x) (hw:∀y∈x.1.weights prog 43,y<=140737488351232) (hb:Rows.uptoBulk x.1<=1048576) :
  (∃s:StR,cs=s.cells/\yT W s)/\2<=Rows.uptoBulk x.1:=by
 obtain⟨xs,n,_,hx,hl,xb,hf⟩:=DataW.trod_struct underlying43 h;rw[yW] at hl
 match cs,hl,xs,xb with
 | [u0,u1,u2,u3,u4,u5],_,[y0,y1,y2,y3,y4,y5],_ =>
  have h0:DataW.trod enc prog W 0 (fun _=>true) true n 3 ((([u0,u1,u2,u3,u4,u5]:List Value).drop 0).take (prog.cellsOf 3))=some y0:=hf 0 _ rfl;have h1:DataW.trod enc prog W 0 (fun _=>true) true n 3 ((([u0,u1,u2,u3,u4,u5]:List Value).drop 1).take (prog.cellsOf 3))=some y1:=hf 1 _ rfl;have h2:DataW.trod enc prog W 0 (fun _=>true) true n 3 ((([u0,u1,u2,u3,u4,u5]:List Value).drop 2).take (prog.cellsOf 3))=some y2:=hf 2 _ rfl
  have h3:DataW.trod enc prog W 0 (fun _=>true) true n 41 ((([u0,u1,u2,u3,u4,u5]:List Value).drop 3).take (prog.cellsOf 41))=some y3:=hf 3 _ rfl;have h4:DataW.trod enc prog W 0 (fun _=>true) true n 24 ((([u0,u1,u2,u3,u4,u5]:List Value).drop 4).take (prog.cellsOf 24))=some y4:=hf 4 _ rfl;have h5:DataW.trod enc prog W 0 (fun _=>true) true n 26 ((([u0,u1,u2,u3,u4,u5]:List Value).drop 5).take (prog.cellsOf 26))=some y5:=hf 5 _ rfl
  simp only[List.drop,lG,a4A,a4x,a4y,List.take] at h0 h1 h2 h3 h4 h5;obtain⟨k,e0,_,_⟩:=DataW.trod_int underlying3 h0;obtain⟨a,e1,_,ha⟩:=DataW.trod_int underlying3 h1;obtain⟨b,e2,_,_⟩:=DataW.trod_int underlying3 h2;have xa:x.1=.agg [y0.1,y1.1,y2.1,y3.1,y4.1,y5.1]:=by rw [hx];rfl
  obtain⟨la,lc,l,e4,xc,xe⟩:=a1i h4 (by
   rw[xa] at hb;simp only[Rows.uptoBulk,Rows.uptoBulkAll] at hb;omega)
  obtain⟨sa,sn,sc,e5⟩:=xZ underlying26 h5;obtain⟨z0,m,hz,_,hy⟩:=trod_struct1 underlying41 h3;simp only[List.cons.injEq,and_true] at e0 e1 e2 e4 e5;subst e0 e1 e2 e4 e5;have xd:DataW.trod enc prog W 0 (fun _=>true) true m 39 [u3]=some z0:=by
   rw[a4z] at hy;simpa using hy
  have hd:y3.1=.agg [z0.1]:=by rw [hz]
  obtain⟨g,hc,hg,hr⟩:=a0Q xd (fun y hm=>hw y (by
   rw[xa,hd];simp only[DataW.weights,underlying43];simp[DataW.weightsEach,DataW.weights,underlying41,hm]))
  simp only[List.cons.injEq,and_true] at hc;subst hc;refine⟨⟨⟨k,a,b,g,la,l.length,lc,sa,sn,sc⟩,rfl,⟨⟨a6A ha,hg,hr⟩,l,rfl,xc,xe⟩⟩,?_⟩;rw[xa];simp only[Rows.uptoBulk,Rows.uptoBulkAll];have:=rS y0.1;omega
theorem qE (h:DataW.trod enc prog W 0 (fun _=>true) true fuel 22 cs=some x) (hw:∀y∈x.1.weights prog 22,y<=140737488351232) (hb:Rows.uptoBulk x.1<=1048576) :
  ∃(a:Option Addr) (c:Nat) (l:List StR),cs=[.slice a l.length c]/\zZ W a l/\l.length<=900000/\∀s,s∈l->yT W s:=by
 rcases Go.Deep.open_slice underlying22 h with ⟨xh,_⟩ | ⟨a,len,xq,m,n,D,Pl,xh,_,xr,hm,xj,hx,xa⟩
 ·exact ⟨none,0,[],xh,(fun h=>absurd h R5),by simp,fun s h=>by cases h⟩
 ·simp only [if_true] at xj
  subst xj;rw[yW] at xa;have xe:x.1=.slice ((List.range len).map D) ((List.range (m - len)).map fun j=>D (len+j)):=by rw [hx]
  have xk:∀i,i < len->∀y∈(D i).weights prog 43,y<=140737488351232:=fun i hi y hy=>hw y (by
   rw[xe];simp only[DataW.weights,underlying22,List.mem_cons,List.mem_append];exact L4b (L4a (eG (List.mem_map.2 ⟨i,List.mem_range.2 hi,rfl⟩) hy)))
  have xl:∀i,i < len->Rows.uptoBulk (D i)<=1048576:=fun i hi=>by
   have h1:=a2g (show D i∈(List.range len).map D from List.mem_map.2 ⟨i,List.mem_range.2 hi,rfl⟩);rw[xe] at hb;simp only[Rows.uptoBulk] at hb;omega
  haveI:Inhabited StR:=⟨⟨0,0,0,⟨none,0,0,0,0,fun _=>⟨0,0,none,0,0,0,0,fun _=>0,fun _=>0⟩⟩,none,0,0,none,0,0⟩⟩
  obtain⟨f,hf⟩:=Go.Deep.choose_lt (α:=StR) (n:=len) (p:=fun i s=>W.cells? 0 (a.add (i*6)) 6=some s.cells/\yT W s) (fun i hi=>by
   obtain⟨xo,xp,xf⟩:=xa i R4;obtain⟨⟨s,rfl,q1⟩,_⟩:=mB xf (xk i hi) (xl i hi);exact⟨s,xp,q1⟩)
  have xb:((List.range len).map f).length=len:=by simp
  have xn:2*len<=1048576:=by
   have h1:=a2h ((List.range len).map D) (fun d hd=>by
    obtain⟨i,hi,rfl⟩:=List.mem_map.1 hd;have xm:=List.mem_range.1 hi;obtain⟨xo,_,xf⟩:=xa i R4;exact (mB xf (xk i xm) (xl i xm)).2)
   rw[xe] at hb;simp only[Rows.uptoBulk] at hb;simp only[List.length_map,List.length_range] at h1;omega
  refine⟨some a,m,(List.range len).map f,by rw [xb];exact xh,fun h0=>?_,by rw [xb];omega,fun s hs=>?_⟩
  ·rw [xb] at h0
   have xc:∀i,i < len->∀j u,(f i).cells[j]?=some u->W.cell? ((a.add (i*6)).add j)=some u:=fun i hi j u hu=>by
    have hj:j < 6:=by
     have:=(L1a.1 hu).1;exact this
    have:=(World.cells?_some (hf i hi).1).2.2 j hj;rw[this];exact hu
   have c0:=xc 0 h0 0 _ rfl;have xi:(a.add (0*6)).add 0=a:=by simp [Addr.add]
   rw[xi] at c0;obtain⟨b,o,xg⟩:=a;have xd:xg=none:=World.cell?_spot c0;subst xd;refine⟨b,o,rfl,World.block_lt_of_cell? _ _ c0,fun i s hs j u hu=>?_⟩;rw[List.getElem?_map] at hs
   cases er:(List.range len)[i]? with
   | none=>rw [er] at hs;cases hs
   | some i' =>
    rw[er] at hs;have hi:=(L1a.1 er).1;rw[List.length_range] at hi;rw[List.getElem?_range hi] at er;obtain rfl:=L5b er;obtain rfl:=L5b hs;have:=xc i hi j u hu;rw[add_plain,add_plain] at this;exact this
  ·obtain ⟨i,hi,rfl⟩:=List.mem_map.1 hs
   exact (hf i (List.mem_range.1 hi)).2
end
end Go.Proofs.YtbkmgoffiigdbaaGreatDoor
