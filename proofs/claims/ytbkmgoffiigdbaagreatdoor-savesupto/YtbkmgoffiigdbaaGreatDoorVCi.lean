import Derived.ProofKit
import Derived.Test.YtbkmgoffiigdbaaGreatDoorVCc
import Derived.Test.YtbkmgoffiigdbaaGreatDoorVCh
import Derived.OpenShut
import Derived.LaidMore
import Derived.Test.YtbkmgoffiigdbaaGreatDoorCards
import Derived.Test.YtbkmgoffiigdbaaGreatDoorTie
import Derived.Deep.DeepHandedRow
import Derived.Deep.DeepWitnessRowRef
namespace Go.Proofs.YtbkmgoffiigdbaaGreatDoor
open Go.ChangeShapes Go.WideShapes Go.ChangeAt Go.RowKit Go.Proofs.Tryz
set_option maxHeartbeats 2000000
set_option maxRecDepth 100000
section
variable {W:World} {cs:List Value} {fuel:Nat}
theorem nV:prog.cellsOf 3=1:=by kernel_rfl
theorem a7i:prog.cellsOf 39=1:=by kernel_rfl
theorem a7j:prog.cellsOf 41=1:=by kernel_rfl
theorem a4K:prog.cellsOf 161=1:=by kernel_rfl
theorem vF:prog.cellsOf 163=3:=by kernel_rfl
theorem a4L:prog.cellsOf 165=2:=by kernel_rfl
theorem a4G:prog.bytesOf 163=40:=by kernel_rfl
theorem a4H:prog.bytesOf 165=16:=by kernel_rfl
theorem a6C {n:Int} (h:(Lit.int .i64 n).wf=true) : -9223372036854775808<=n/\n<=9223372036854775807:=by
 have h':=h;simp only[Lit.wf,Bool.and_eq_true,decide_eq_true_eq] at h';exact h'
theorem a7e {l:List Nat} {b:Nat} (h:l.all (·<=b)=true) {x:Nat} (hx:x∈l):x<=b:=by
 have:=List.all_eq_true.1 h x hx;simpa using this
theorem a7I {H:Type} {enc:TypeId × Value->H} {x:DataW H × List MemPlace} (h:DataW.trod enc prog W 0 (fun _=>true) true fuel 163 cs=some x) (hw:∀y∈x.1.weights prog 163,y<=140737488351232) :
  ∃f:FnR,cs=[J f.p,J f.l,.slice f.a f.n f.c]/\N2 W.heap.size W f/\f.n*16<=140737488351232/\(f.a=none->f.n=0/\f.c=0)/\∀j,j < f.n -> -9223372036854775808<=f.ar j/\f.ar j<=9223372036854775807:=by
 obtain⟨y0,y1,y2,n,hx,hl,h0,h1,h2⟩:=Go.Deep.trod_struct3 underlying163 h;rw[vF] at hl
 match cs,hl with
 | [u0,u1,u2],_ =>
  simp only[List.drop,nV,a4K,List.take] at h0 h1 h2;obtain⟨p,e0,_,_⟩:=DataW.trod_int underlying3 h0;obtain⟨l,e1,_,_⟩:=DataW.trod_int underlying3 h1;simp only[List.cons.injEq,and_true] at e0 e1;subst e0 e1;rcases Go.Deep.open_slice_pairs underlying161 underlying165 a4L rfl rfl nV nV h2 with ⟨xd,_⟩ | ⟨a,len,xo,m,n',V0,V1,D0,D1,P0,P1,xd,_,xm,hm,xh,xi,xa⟩
  ·simp only [List.cons.injEq,and_true] at xd
   subst xd;exact⟨⟨p,l,none,0,0,0,0,fun _=>0,fun _=>0⟩,rfl,⟨by show 0<=_;omega,fun hn=>absurd hn (by show ¬0 < 0;omega)⟩,by show 0*16<=_;omega,fun _=>⟨rfl,rfl⟩,fun j hj=>absurd hj (by show ¬j < 0;omega)⟩
  ·simp only [List.cons.injEq,and_true] at xd
   subst xd;simp only[if_true] at xh;subst xh;obtain⟨op,xj⟩:=Go.Deep.choose_lt (α:=Int) (n:=m) (p:=fun i v=>V0 i=J v) (fun i hi=>by
    obtain⟨v,e,_,_⟩:=DataW.trod_int underlying3 (xa i hi).2.2.1;exact⟨v,by simpa using e⟩)
   obtain⟨ar,xg⟩:=Go.Deep.choose_lt (α:=Int) (n:=m) (p:=fun i v=>V1 i=J v /\ -9223372036854775808<=v/\v<=9223372036854775807) (fun i hi=>by
    obtain⟨v,e,_,hv⟩:=DataW.trod_int underlying3 (xa i hi).2.2.2;exact⟨v,by simpa using e,a6C hv⟩)
   have xb:len*16<=140737488351232:=by
    have xk:x.1=.agg [y0.1,y1.1,y2.1]:=by rw [hx]
    have:(len+(m - len))*16∈x.1.weights prog 163:=by
     rw[xk,xi];simp[DataW.weights,DataW.weightsEach,underlying163,underlying161,a4H]
    have:=hw _ this;omega
   refine⟨⟨p,l,some a,len,m,a.block,a.off,op,ar⟩,rfl,⟨?_,fun hn=>?_⟩,xb,(fun h=>by cases h),fun j hj=>(xg j (by have xl:j < len:=hj;omega)).2⟩
   ·show len<=_;omega
   ·have xn:0 < len:=hn
    have c0:=(xa 0 R5).1;have xe:a.add (0*2)=a:=by simp [Addr.add]
    rw[xe] at c0;obtain⟨b,o,xf⟩:=a;have xc:xf=none:=World.cell?_spot c0;subst xc;refine⟨rfl,World.block_lt_of_cell? _ _ c0,fun j hj=>?_⟩;have xl:j < len:=hj;obtain⟨q0,q1,_,_⟩:=xa j R5;rw[add_plain,xj j R5] at q0;rw[add_plain,(xg j R5).1] at q1;exact⟨q0,q1⟩
theorem gJ {H:Type} {e:TypeId} {l:List (DataW H)} {d:DataW H} (hd:d∈l) {y:Nat} (hy:y∈d.weights prog e):y∈DataW.weightsAll prog e l:=by
 induction l with
 | nil=>cases hd
 | cons a r ih =>
  rw[DataW.weightsAll,List.mem_append];rcases List.mem_cons.1 hd with rfl | hd
  ·exact L4a hy
  ·exact L4b (ih hd)
theorem a3b {H:Type} {enc:TypeId × Value->H} {x:DataW H × List MemPlace} (h:DataW.trod enc prog W 0 (fun _=>true) true fuel 39 cs=some x) (hw:∀y∈x.1.weights prog 39,y<=140737488351232) :
  ∃g:PgR,cs=[.slice g.a g.n g.c]/\I9 W.heap.size W g/\jT g/\∀i,i < g.n->∀j,j < (g.f i).n -> -9223372036854775808<=(g.f i).ar j/\(g.f i).ar j<=9223372036854775807:=by
 rcases Go.Deep.open_slice underlying39 h with ⟨xd,_⟩ | ⟨a,len,xq,m,n,D,Pl,xd,_,xn,hm,xg,hx,xa⟩
 ·subst xd
  exact⟨⟨none,0,0,0,0,fun _=>⟨0,0,none,0,0,0,0,fun _=>0,fun _=>0⟩⟩,rfl,⟨by show 0<=_;omega,fun hn=>absurd hn (by show ¬0 < 0;omega),fun i hi=>absurd hi (by show ¬i < 0;omega)⟩,⟨by show 0*40<=_;omega,fun i hi=>absurd hi (by show ¬i < 0;omega)⟩,fun i hi=>absurd hi (by show ¬i < 0;omega)⟩
 ·subst xd
  simp only[if_true] at xg;subst xg;rw[vF] at xa;have xh:x.1=.slice ((List.range len).map D) ((List.range (m - len)).map fun j=>D (len+j)):=by rw [hx]
  have xo:(len+(m - len))*40<=140737488351232:=hw _ (by rw [xh];simp [DataW.weights,underlying39,a4G]);have xl:∀i,i < len->∀y∈(D i).weights prog 163,y<=140737488351232:=fun i hi y hy=>hw y (by
   rw[xh];simp only[DataW.weights,underlying39,List.mem_cons,List.mem_append];exact L4b (L4a (gJ (List.mem_map.2 ⟨i,List.mem_range.2 hi,rfl⟩) hy)))
  haveI:Inhabited FnR:=⟨⟨0,0,none,0,0,0,0,fun _=>0,fun _=>0⟩⟩
  obtain⟨f,hf⟩:=Go.Deep.choose_lt (α:=FnR) (n:=len) (p:=fun i f=>W.cells? 0 (a.add (i*3)) 3=some [J f.p,J f.l,.slice f.a f.n f.c]/\N2 W.heap.size W f/\f.n*16<=140737488351232/\(f.a=none->f.n=0/\f.c=0)/\∀j,j < f.n -> -9223372036854775808<=f.ar j/\f.ar j<=9223372036854775807) (fun i hi=>by
   obtain⟨xp,xi,xm⟩:=xa i R5;obtain⟨f,rfl,q1,q2,q3⟩:=a7I xm (xl i hi);exact⟨f,xi,q1,q2,q3⟩)
  refine⟨⟨some a,len,m,a.block,a.off,f⟩,rfl,⟨by show len<=_;omega,fun hn=>?_,fun i hi=>(hf i hi).2.1⟩,⟨by show len*40<=_;omega,fun i hi=>⟨(hf i hi).2.2.1,(hf i hi).2.2.2.1⟩⟩,fun i hi=>(hf i hi).2.2.2.2⟩;have xj:0 < len:=hn;have c0:=(World.cells?_some (hf 0 xj).1).2.2 0 R5;have xc:(a.add (0*3)).add 0=a:=by simp [Addr.add]
  rw[xc] at c0;have xf:W.cell? a=some (J (f 0).p):=c0;obtain⟨b,o,xe⟩:=a;have xb:xe=none:=World.cell?_spot xf;subst xb;refine⟨rfl,World.block_lt_of_cell? _ _ xf,fun i hi=>?_⟩;have xk:i < len:=hi;have hc:=(World.cells?_some (hf i xk).1).2.2;have q0:=hc 0 R5;have q1:=hc 1 R5;have q2:=hc 2 R5;rw[add_plain,add_plain] at q0 q1 q2;exact⟨q0,q1,q2⟩
end
theorem a1z:prog.cellsOf 43=6:=by kernel_rfl
theorem a7g:prog.cellsOf 24=1:=by kernel_rfl
theorem a7h:prog.cellsOf 26=1:=by kernel_rfl
theorem a1a {H:Type} {enc:TypeId × Value->H} {W:World} {fuel:Nat} {cs:List Value} {x:DataW H × List MemPlace} {t e:TypeId} (ht:prog.underlying t=some (.slice e)) (h:DataW.trod enc prog W 0 (fun _=>true) true fuel t cs=some x):∃a n c,cs=[.slice a n c]:=by
 rcases Go.Deep.open_slice ht h with ⟨xa,_⟩ | ⟨a,xb,xc,_,_,_,_,xa,_⟩
 ·exact ⟨_,_,_,xa⟩
 ·exact ⟨_,_,_,xa⟩
theorem a4F {H:Type} (l:List (DataW H)) (h:∀d,d∈l->2<=Rows.uptoBulk d):2*l.length<=Rows.uptoBulkAll l:=by
 induction l with
 | nil=>simp [Rows.uptoBulkAll]
 | cons x r ih =>
  have h1:=h x (List.mem_cons_self ..);have h2:=ih fun d hd=>h d (List.mem_cons_of_mem _ hd)
  simp only[Rows.uptoBulkAll,List.length_cons];omega
end Go.Proofs.YtbkmgoffiigdbaaGreatDoor
namespace Go.Proofs.YtbkmgoffiigdbaaGreatDoor
open Go.RowKit Go.Sort Go.Proofs.Tryz
set_option maxHeartbeats 2000000
set_option maxRecDepth 100000
structure a1w (w:World) (s:StR):Prop where
 ok:a4w w s
 ints:∃l:List Int,s.ln=l.length/\l.length<=10000000/\K1 w s.la l
end Go.Proofs.YtbkmgoffiigdbaaGreatDoor
namespace Go.Proofs.YtbkmgoffiigdbaaGreatDoor
open Go.ChangeShapes Go.WideShapes Go.ChangeAt Go.RowKit Go.Proofs.Tryz
set_option maxHeartbeats 2000000
set_option maxRecDepth 100000
section
variable {H:Type} {W:World} {cs:List Value} {fuel:Nat}
theorem vD (d:DataW H):1<=Rows.uptoBulk d:=by
 cases d with
 | lit l=>cases l <;> simp [Rows.uptoBulk]
 | nil=>simp [Rows.uptoBulk]
 | ptr d=>simp [Rows.uptoBulk]
 | slice elems spare=>simp [Rows.uptoBulk]
 | agg parts=>simp [Rows.uptoBulk]
 | iface t d=>simp [Rows.uptoBulk]
 | map entries=>simp [Rows.uptoBulk]
 | held h=>simp [Rows.uptoBulk]
theorem a4E {H:Type} {l:List (DataW H)} {d:DataW H} (h:d∈l):Rows.uptoBulk d<=Rows.uptoBulkAll l:=by
 induction l with
 | nil=>cases h
 | cons x r ih =>
  simp only[Rows.uptoBulkAll];rcases List.mem_cons.1 h with rfl | h
  ·omega
  ·have:=ih h;omega
theorem a3w {H:Type} {enc:TypeId × Value->H} {x:DataW H × List MemPlace} (h:DataW.trod enc prog W 0 (fun _=>true) true fuel 24 cs=some x) (hb:Rows.uptoBulk x.1<=1048576) :
  ∃a c,∃l:List Int,cs=[.slice a l.length c]/\l.length<=10000000/\K1 W a l:=by
 rcases Go.Deep.open_slice underlying24 h with ⟨xf,_⟩ | ⟨a,len,xo,m,n,D,Pl,xf,_,xm,hm,xi,hx,xb⟩
 ·exact ⟨none,0,[],xf,by simp,fun h=>absurd h R6⟩
 ·simp only [if_true] at xi
  subst xi;rw[nV] at xb;have xk:x.1=.slice ((List.range len).map D) ((List.range (m - len)).map fun j=>D (len+j)):=by rw [hx]
  obtain⟨f,hf⟩:=Go.Deep.choose_lt (α:=Int) (n:=len) (p:=fun i s=>W.cells? 0 (a.add (i*1)) 1=some [J s]) (fun i hi=>by
   obtain⟨xn,xj,xl⟩:=xb i R5;obtain⟨k,e0,_,_⟩:=DataW.trod_int underlying3 xl;exact⟨k,by rw [xj,e0]⟩)
  have xa:((List.range len).map f).length=len:=by simp
  have xh:len<=1048576:=by
   have h1:∀l:List (DataW H),l.length<=Rows.uptoBulkAll l:=fun l=>by
    induction l with
    | nil=>simp
    | cons d r ih =>
     have:=vD d;simp only[Rows.uptoBulkAll,List.length_cons];omega
   have h2:=h1 ((List.range len).map D);rw[xk] at hb;simp only[Rows.uptoBulk] at hb;simp only[List.length_map,List.length_range] at h2;omega
  refine⟨some a,m,(List.range len).map f,by rw [xa];exact xf,by rw [xa];omega,fun h0=>?_⟩;rw[xa] at h0;have xd:∀i,i < len->W.cell? (a.add (i*1))=some (J (f i)):=fun i hi=>by
   have:=(World.cells?_some (hf i hi)).2.2 0 R4;simpa [Addr.add] using this
  have c0:=xd 0 h0;have xe:a.add (0*1)=a:=by simp [Addr.add]
  rw[xe] at c0;obtain⟨b,o,xg⟩:=a;have xc:xg=none:=World.cell?_spot c0;subst xc;refine⟨b,o,rfl,World.block_lt_of_cell? _ _ c0,fun i x hx=>?_⟩;have hi:=(L1a.1 hx).1;rw[xa] at hi;rw[List.getElem?_map,List.getElem?_range hi] at hx;obtain rfl:=L5b hx;have:=xd i hi;rw[add_plain,Nat.mul_one] at this;exact this
theorem oX {H:Type} {enc:TypeId × Value->H} {x:DataW H × List MemPlace} (h:DataW.trod enc prog W 0 (fun _=>true) true fuel 43 cs=some x) (hw:∀y∈x.1.weights prog 43,y<=140737488351232) (hb:Rows.uptoBulk x.1<=1048576) :
  (∃s:StR,cs=s.cells/\a1w W s)/\2<=Rows.uptoBulk x.1:=by
 obtain⟨xs,n,_,hx,hl,xa,hf⟩:=DataW.trod_struct underlying43 h;rw[a1z] at hl
 match cs,hl,xs,xa with
 | [u0,u1,u2,u3,u4,u5],_,[y0,y1,y2,y3,y4,y5],_ =>
  have h0:DataW.trod enc prog W 0 (fun _=>true) true n 3 ((([u0,u1,u2,u3,u4,u5]:List Value).drop 0).take (prog.cellsOf 3))=some y0:=hf 0 _ rfl;have h1:DataW.trod enc prog W 0 (fun _=>true) true n 3 ((([u0,u1,u2,u3,u4,u5]:List Value).drop 1).take (prog.cellsOf 3))=some y1:=hf 1 _ rfl;have h2:DataW.trod enc prog W 0 (fun _=>true) true n 3 ((([u0,u1,u2,u3,u4,u5]:List Value).drop 2).take (prog.cellsOf 3))=some y2:=hf 2 _ rfl
  have h3:DataW.trod enc prog W 0 (fun _=>true) true n 41 ((([u0,u1,u2,u3,u4,u5]:List Value).drop 3).take (prog.cellsOf 41))=some y3:=hf 3 _ rfl;have h4:DataW.trod enc prog W 0 (fun _=>true) true n 24 ((([u0,u1,u2,u3,u4,u5]:List Value).drop 4).take (prog.cellsOf 24))=some y4:=hf 4 _ rfl;have h5:DataW.trod enc prog W 0 (fun _=>true) true n 26 ((([u0,u1,u2,u3,u4,u5]:List Value).drop 5).take (prog.cellsOf 26))=some y5:=hf 5 _ rfl
  simp only[List.drop,nV,a7j,a7g,a7h,List.take] at h0 h1 h2 h3 h4 h5;obtain⟨k,e0,_,_⟩:=DataW.trod_int underlying3 h0;obtain⟨a,e1,_,ha⟩:=DataW.trod_int underlying3 h1;obtain⟨b,e2,_,_⟩:=DataW.trod_int underlying3 h2;have xb:x.1=.agg [y0.1,y1.1,y2.1,y3.1,y4.1,y5.1]:=by rw [hx];rfl
  obtain⟨la,lc,l,e4,xe,xd⟩:=a3w h4 (by
   rw[xb] at hb;simp only[Rows.uptoBulk,Rows.uptoBulkAll] at hb;omega)
  obtain⟨sa,sn,sc,e5⟩:=a1a underlying26 h5;obtain⟨z0,m,hz,_,hy⟩:=trod_struct1 underlying41 h3;simp only[List.cons.injEq,and_true] at e0 e1 e2 e4 e5;subst e0 e1 e2 e4 e5;have xf:DataW.trod enc prog W 0 (fun _=>true) true m 39 [u3]=some z0:=by
   rw[a7i] at hy;simpa using hy
  have hd:y3.1=.agg [z0.1]:=by rw [hz]
  obtain⟨g,hc,hg,hr,xc⟩:=a3b xf (fun y hm=>hw y (by
   rw[xb,hd];simp only[DataW.weights,underlying43];simp[DataW.weightsEach,DataW.weights,underlying41,hm]))
  simp only[List.cons.injEq,and_true] at hc;subst hc;refine⟨⟨⟨k,a,b,g,la,l.length,lc,sa,sn,sc⟩,rfl,⟨⟨a6C ha,hg,hr,xc⟩,l,rfl,xe,xd⟩⟩,?_⟩;rw[xb];simp only[Rows.uptoBulk,Rows.uptoBulkAll];have:=vD y0.1;omega
theorem tH {H:Type} {enc:TypeId × Value->H} {x:DataW H × List MemPlace} (h:DataW.trod enc prog W 0 (fun _=>true) true fuel 22 cs=some x) (hw:∀y∈x.1.weights prog 22,y<=140737488351232) (hb:Rows.uptoBulk x.1<=1048576) :
  ∃(a:Option Addr) (c:Nat) (l:List StR),cs=[.slice a l.length c]/\a2a W a l/\l.length<=900000/\∀s,s∈l->a1w W s:=by
 rcases Go.Deep.open_slice underlying22 h with ⟨xg,_⟩ | ⟨a,len,xr,m,n,D,Pl,xg,_,xq,hm,xk,hx,xa⟩
 ·exact ⟨none,0,[],xg,(fun h=>absurd h R6),by simp,fun s h=>by cases h⟩
 ·simp only [if_true] at xk
  subst xk;rw[a1z] at xa;have xf:x.1=.slice ((List.range len).map D) ((List.range (m - len)).map fun j=>D (len+j)):=by rw [hx]
  have xm:∀i,i < len->∀y∈(D i).weights prog 43,y<=140737488351232:=fun i hi y hy=>hw y (by
   rw[xf];simp only[DataW.weights,underlying22,List.mem_cons,List.mem_append];exact L4b (L4a (gJ (List.mem_map.2 ⟨i,List.mem_range.2 hi,rfl⟩) hy)))
  have xn:∀i,i < len->Rows.uptoBulk (D i)<=1048576:=fun i hi=>by
   have h1:=a4E (show D i∈(List.range len).map D from List.mem_map.2 ⟨i,List.mem_range.2 hi,rfl⟩);rw[xf] at hb;simp only[Rows.uptoBulk] at hb;omega
  haveI:Inhabited StR:=⟨⟨0,0,0,⟨none,0,0,0,0,fun _=>⟨0,0,none,0,0,0,0,fun _=>0,fun _=>0⟩⟩,none,0,0,none,0,0⟩⟩
  obtain⟨f,hf⟩:=Go.Deep.choose_lt (α:=StR) (n:=len) (p:=fun i s=>W.cells? 0 (a.add (i*6)) 6=some s.cells/\a1w W s) (fun i hi=>by
   obtain⟨xp,xo,xi⟩:=xa i R5;obtain⟨⟨s,rfl,q1⟩,_⟩:=oX xi (xm i hi) (xn i hi);exact⟨s,xo,q1⟩)
  have xb:((List.range len).map f).length=len:=by simp
  have xj:2*len<=1048576:=by
   have h1:=a4F ((List.range len).map D) (fun d hd=>by
    obtain⟨i,hi,rfl⟩:=List.mem_map.1 hd;have xl:=List.mem_range.1 hi;obtain⟨xp,_,xi⟩:=xa i R5;exact (oX xi (xm i xl) (xn i xl)).2)
   rw[xf] at hb;simp only[Rows.uptoBulk] at hb;simp only[List.length_map,List.length_range] at h1;omega
  refine⟨some a,m,(List.range len).map f,by rw [xb];exact xg,fun h0=>?_,by rw [xb];omega,fun s hs=>?_⟩
  ·rw [xb] at h0
   have xd:∀i,i < len->∀j u,(f i).cells[j]?=some u->W.cell? ((a.add (i*6)).add j)=some u:=fun i hi j u hu=>by
    have hj:j < 6:=by
     have:=(L1a.1 hu).1;exact this
    have:=(World.cells?_some (hf i hi).1).2.2 j hj;rw[this];exact hu
   have c0:=xd 0 h0 0 _ rfl;have xe:(a.add (0*6)).add 0=a:=by simp [Addr.add]
   rw[xe] at c0;obtain⟨b,o,xh⟩:=a;have xc:xh=none:=World.cell?_spot c0;subst xc;refine⟨b,o,rfl,World.block_lt_of_cell? _ _ c0,fun i s hs j u hu=>?_⟩;rw[List.getElem?_map] at hs
   cases er:(List.range len)[i]? with
   | none=>rw [er] at hs;cases hs
   | some i' =>
    rw[er] at hs;have hi:=(L1a.1 er).1;rw[List.length_range] at hi;rw[List.getElem?_range hi] at er;obtain rfl:=L5b er;obtain rfl:=L5b hs;have:=xd i hi j u hu;rw[add_plain,add_plain] at this;exact this
  ·obtain ⟨i,hi,rfl⟩:=List.mem_map.1 hs
   exact (hf i (List.mem_range.1 hi)).2
end
end Go.Proofs.YtbkmgoffiigdbaaGreatDoor
namespace Go.Proofs.YtbkmgoffiigdbaaGreatDoor
open Go.RowKit Go.Sort Go.Proofs.Tryz
set_option maxHeartbeats 2000000
set_option maxRecDepth 100000
theorem a3T {w0 w:World} {P:A5} {yb N M:Nat} {Y:PlR} (h:Lw ⟨w0,fun _=>True⟩ P w yb Y N M) (hN:N<=9999990000) (hM:M<=900000000) (ht:Tab w) (s:StR) (hs:a4w w s) (hl:∃l:List Int,s.ln=l.length/\l.length<=10000000/\K1 w0 s.la l) (hk:s.k=1\/s.k=2\/s.k=7\/s.k=8\/s.k=9) :
  Calls prog 11 #[zB yb,.agg s.cells.toArray] w fun e w'=>e=.returned (.bool true)/\∃P2 Y2,Lw ⟨w0,fun _=>True⟩ P2 w' yb Y2 (N+10000) (M+100):=by
 obtain⟨k,a,b,g,la,ln,lc,sa,sn,sc⟩:=s;obtain⟨l,xf,xe,xd⟩:=hl;have xc:ln=l.length:=xf;subst xc;have xg:k=1\/k=2\/k=7\/k=8\/k=9:=hk;by_cases e:k=1
 ·subst e
  refine (a3V h hM g hs.pg hs.re hs.ar ht a b la sa l.length lc sn sc).mono ?_;rintro e w' ⟨rfl,P2,Y2,hL⟩;exact⟨rfl,P2,Y2,hL.mono R5 R5⟩
 ·refine a6s h hN hM k a b hs.a R5 R5 g.a la sa g.n g.c l.length lc sn sc fun w1 P1 u i xb cb hF hL hi=>?_
  rcases xg with e1 | e2 | e7 | e8 | e9
  ·exact absurd e1 e
  ·subst e2
   refine (a9b hL hi hN a b g.a la sa g.n g.c l.length lc sn sc).mono ?_;rintro e w' ⟨rfl,P2,xa⟩;exact⟨rfl,P2,Y,xa.mono R5 R5,rfl,rfl⟩
  ·subst e7
   refine (a7B hL hi a b l xe g.a la sa g.n g.c lc sn sc fun V hV=>xd.later ?_).mono ?_
   ·have hB:=hF V hV
    exact⟨hB.os,hB.tape,hB.output,hB.size,fun q hq=>hB.block q hq trivial⟩
   ·rintro e w' ⟨rfl,P2,xa⟩
    exact⟨rfl,P2,Y,xa.mono R5 R5,rfl,rfl⟩
  ·subst e8
   refine (a0p hL hi hN a b g.a la sa g.n g.c l.length lc sn sc).mono ?_;rintro e w' ⟨rfl,P2,xa⟩;exact⟨rfl,P2,Y,xa.mono R5 R5,rfl,rfl⟩
  ·subst e9
   refine (a7C hL hi hN hM a b g.a la sa g.n g.c l.length lc sn sc).mono ?_;rintro e w' ⟨rfl,P2,Y2,xa,hq⟩;exact⟨rfl,P2,Y2,xa.mono R5 R5,hq⟩
theorem a3M {w:World} (ht:Tab w) {sa:Option Addr} {sc:Nat} {l:List StR} (hl:a2a w sa l) (hn:l.length<=900000) (hs:∀s,s∈l->a1w w s) :
  Calls prog 5 #[.slice sa l.length sc] w fun e w'=>e=.returned (.bool true)/\L0d w w':=by
 have hB:L0d w (w.alloc (Obj.cells #[J 1,J 2,J 7,J 8,J 9] 3)):=L3a (L3b _ _) (L1c _) _;have hT:=ht.held hB.size (hB.block 0 ht.1);have HP:Hid (Calls prog 8 #[.slice sa l.length sc,.slice (zA w.heap.size) 5 5] (w.alloc (Obj.cells #[J 1,J 2,J 7,J 8,J 9] 3)) fun e w'=>e=.returned (.bool true)/\L0d w w'):=hid ((a3l (ks:=[1,2,7,8,9]) hT (hl.later hB) hn R4 R6 (fun j x hj=>by
  have xa:=(L1a.1 hj).1;simp only[List.length_cons,List.length_nil] at xa;have:j=0\/j=1\/j=2\/j=3\/j=4:=by omega
  rcases this with rfl | rfl | rfl | rfl | rfl <;> (obtain rfl:=L5b hj;go_simp)) (fun s hm hk P U Y N M hN hM hL=>by
  obtain⟨q,q1,q2,q3⟩:=(hs s hm).ints;have xb:s.k=1\/s.k=2\/s.k=7\/s.k=8\/s.k=9:=by simpa using hk
  exact a3T hL hN hM (hT.held hL.kept.size (hL.kept.block 0 hT.1)) s (((hs s hm).ok.later hB).later hL.kept) ⟨q,q1,q2,q3.later hB⟩ xb)).mono fun e w' h=>⟨h.1,hB.trans (h.2.mono hB.size)⟩)
 clear hl hs ht hB hT;go_enter func5,ntmps5;go_wp2_with (go_at_call 8;refine HP.out.mono ?_;rintro e w1 ⟨rfl,hb⟩;have HB:=hid hb;clear hb)
 go_ret;exact⟨rfl,HB.out⟩
end Go.Proofs.YtbkmgoffiigdbaaGreatDoor
namespace Go.Proofs.YtbkmgoffiigdbaaGreatDoor
open Go.ChangeShapes Go.WideShapes Go.ChangeAt Go.RowKit Go.Proofs.Tryz
set_option maxHeartbeats 2000000
set_option maxRecDepth 100000
section
variable {W:World}
theorem a9T : prog.globalNamed "slumber/slumber.operations" = some 0 := by kernel_rfl
theorem a9V:(prog.globals[0]?).map (·.type)=some 231:=by kernel_rfl
theorem xV:prog.cellsOf 230=5:=by kernel_rfl
theorem a8m:prog.cellsOf 3=1:=by kernel_rfl
theorem a6u:prog.cellsOf 225=1:=by kernel_rfl
theorem a6v:prog.cellsOf 226=1:=by kernel_rfl
theorem a4d:prog.cellsOf 228=1:=by kernel_rfl
theorem a6w:prog.cellsOf 231=140:=by kernel_rfl
def a1K (k:Nat):List UInt8:=if S4 k=255 then [115,108,117,109,98,101,114,47,115,108,117,109,98,101,114,46,97,110,121,116,104,105,110,103] else if S4 k=257 then [115,108,117,109,98,101,114,47,115,108,117,109,98,101,114,46,110,111,116,104,105,110,103] else if S4 k=259 then [115,108,117,109,98,101,114,47,115,108,117,109,98,101,114,46,97,76,111,99,97,108] else if S4 k=270 then [115,108,117,109,98,101,114,47,115,108,117,109,98,101,114,46,97,110,73,110,115,116,114,117,99,116,105,111,110] else if S4 k=273 then [115,108,117,109,98,101,114,47,115,108,117,109,98,101,114,46,97,70,117,110,99,116,105,111,110] else if S4 k=276 then [115,108,117,109,98,101,114,47,115,108,117,109,98,101,114,46,97,82,101,99,111,114,100,83,105,122,101] else if S4 k=280 then [115,108,117,109,98,101,114,47,115,108,117,109,98,101,114,46,97,70,105,101,108,100] else []
def a9G:List (List UInt8):=[[115,108,117,109,98,101,114,47,115,108,117,109,98,101,114,46,100,111,73,110,116],[115,108,117,109,98,101,114,47,115,108,117,109,98,101,114,46,100,111,78,105,108],[115,108,117,109,98,101,114,47,115,108,117,109,98,101,114,46,100,111,76,111,97,100],[115,108,117,109,98,101,114,47,115,108,117,109,98,101,114,46,100,111,83,116,111,114,101],[115,108,117,109,98,101,114,47,115,108,117,109,98,101,114,46,100,111,68,117,112],[115,108,117,109,98,101,114,47,115,108,117,109,98,101,114,46,100,111,80,111,112],[115,108,117,109,98,101,114,47,115,108,117,109,98,101,114,46,100,111,83,119,97,112],[115,108,117,109,98,101,114,47,115,108,117,109,98,101,114,46,100,111,65,100,100],[115,108,117,109,98,101,114,47,115,108,117,109,98,101,114,46,100,111,83,117,98],[115,108,117,109,98,101,114,47,115,108,117,109,98,101,114,46,100,111,77,117,108],[115,108,117,109,98,101,114,47,115,108,117,109,98,101,114,46,100,111,76,101,115,115],[115,108,117,109,98,101,114,47,115,108,117,109,98,101,114,46,100,111,83,97,109,101],[115,108,117,109,98,101,114,47,115,108,117,109,98,101,114,46,100,111,74,117,109,112],[115,108,117,109,98,101,114,47,115,108,117,109,98,101,114,46,100,111,74,117,109,112,78,111,116],[115,108,117,109,98,101,114,47,115,108,117,109,98,101,114,46,100,111,67,97,108,108],[115,108,117,109,98,101,114,47,115,108,117,109,98,101,114,46,100,111,82,101,116,117,114,110],[115,108,117,109,98,101,114,47,115,108,117,109,98,101,114,46,100,111,82,101,99,111,114,100],[115,108,117,109,98,101,114,47,115,108,117,109,98,101,114,46,100,111,65,114,114,97,121],[115,108,117,109,98,101,114,47,115,108,117,109,98,101,114,46,100,111,87,101,97,107],[115,108,117,109,98,101,114,47,115,108,117,109,98,101,114,46,100,111,71,101,116],[115,108,117,109,98,101,114,47,115,108,117,109,98,101,114,46,100,111,80,117,116],[115,108,117,109,98,101,114,47,115,108,117,109,98,101,114,46,100,111,65,116],[115,108,117,109,98,101,114,47,115,108,117,109,98,101,114,46,100,111,83,101,116],[115,108,117,109,98,101,114,47,115,108,117,109,98,101,114,46,100,111,76,101,110],[115,108,117,109,98,101,114,47,115,108,117,109,98,101,114,46,100,111,83,116,114,111,110,103],[115,108,117,109,98,101,114,47,115,108,117,109,98,101,114,46,100,111,73,115,82,101,102],[115,108,117,109,98,101,114,47,115,108,117,109,98,101,114,46,100,111,80,114,105,110,116],[115,108,117,109,98,101,114,47,115,108,117,109,98,101,114,46,100,111,72,97,108,116]]
def doB (k:Nat):List UInt8:=a9G.getD k []
def a3B (k:Nat):DataW (List UInt8):=.agg [.lit (.int .i64 (tL k)),.lit (.int .i64 (R7 k)),.lit (.int .i64 (fK k)),.held (a1K k),.held (doB k)]
def a8w:DataW Unit:=match (Rows.laid_slumber_slumber_operations:DataW Unit) with | .iface _ d=>d | d=>d
theorem a5j : (Rows.laid_slumber_slumber_operations : DataW Unit) = .iface "func table" a8w := by kernel_rfl
theorem a9U:a8w.funcsOut=.agg ((List.range 28).map a3B):=by kernel_rfl
theorem a2T:(List.range 28).all (fun k=>((List.range prog.funcs.size).filter fun f=>(prog.funcs[f]?).any (·.name.toUTF8.data.toList == a1K k)) == [S4 k] && !(a1K k).isEmpty)=true:=by kernel_rfl
theorem a4U:(List.range 28).all (fun k=>((List.range prog.funcs.size).filter fun f=>(prog.funcs[f]?).any (·.name.toUTF8.data.toList == doB k)) == [doT k] && !(doB k).isEmpty)=true:=by kernel_rfl
theorem a3C {m k:Nat} (hk:k < 28) {cs:List Value} {pl:List MemPlace} (h:DataW.trod (funcToken prog) prog W 0 (fun _=>true) true m 230 cs=some (a3B k,pl)) :
  cs=[.int .i64 (tL k),.int .i64 (R7 k),.int .i64 (fK k),.func (.func (S4 k)) #[] #[],.func (.func (doT k)) #[] #[]]:=by
 obtain⟨xs,n,_,hx,hl,xe,hf⟩:=DataW.trod_struct underlying230 h;rw[xV] at hl
 match cs,hl,xs,xe with
 | [u0,u1,u2,u3,u4],_,[y0,y1,y2,y3,y4],_ =>
  have h0:DataW.trod (funcToken prog) prog W 0 (fun _=>true) true n 3 ((([u0,u1,u2,u3,u4]:List Value).drop 0).take (prog.cellsOf 3))=some y0:=hf 0 _ rfl;have h1:DataW.trod (funcToken prog) prog W 0 (fun _=>true) true n 3 ((([u0,u1,u2,u3,u4]:List Value).drop 1).take (prog.cellsOf 3))=some y1:=hf 1 _ rfl;have h2:DataW.trod (funcToken prog) prog W 0 (fun _=>true) true n 225 ((([u0,u1,u2,u3,u4]:List Value).drop 2).take (prog.cellsOf 225))=some y2:=hf 2 _ rfl
  have h3:DataW.trod (funcToken prog) prog W 0 (fun _=>true) true n 226 ((([u0,u1,u2,u3,u4]:List Value).drop 3).take (prog.cellsOf 226))=some y3:=hf 3 _ rfl;have h4:DataW.trod (funcToken prog) prog W 0 (fun _=>true) true n 228 ((([u0,u1,u2,u3,u4]:List Value).drop 4).take (prog.cellsOf 228))=some y4:=hf 4 _ rfl;rw[a8m] at h0 h1;rw[a6u] at h2;rw[a6v] at h3;rw[a4d] at h4
  simp only[List.drop,List.take] at h0 h1 h2 h3 h4;simp only[a3B,List.map,Prod.mk.injEq,DataW.agg.injEq,List.cons.injEq,and_true] at hx;obtain⟨⟨x0,x1,x2,x3,x4⟩,_⟩:=hx;obtain⟨v0,e0,q0,_⟩:=DataW.trod_int underlying3 h0;obtain⟨v1,e1,q1,_⟩:=DataW.trod_int underlying3 h1;obtain⟨v2,e2,q2,_⟩:=DataW.trod_int underlying225 h2;rw[q0] at x0;rw[q1] at x1;rw[q2] at x2;simp only[DataW.lit.injEq,Lit.int.injEq,true_and] at x0 x1 x2
  simp only[List.cons.injEq,and_true] at e0 e1 e2;have xf:=List.all_eq_true.1 a2T k (List.mem_range.2 hk);simp only[Bool.and_eq_true,beq_iff_eq,Bool.not_eq_true'] at xf;obtain⟨xd,xg⟩:=xf;have xb:=List.all_eq_true.1 a4U k (List.mem_range.2 hk);simp only[Bool.and_eq_true,beq_iff_eq,Bool.not_eq_true'] at xb;obtain⟨xa,xc⟩:=xb;obtain⟨w3,p3⟩:=y3;obtain⟨w4,p4⟩:=y4;simp only at x3 x4
  subst x3 x4;generalize a1K k=nb at xd xg h3;generalize doB k=db at xa xc h4
  cases nb with
  | nil=>cases xg
  | cons b r =>
   cases db with
   | nil=>cases xc
   | cons b' r' =>
    have:=func_of_trod (f0:=S4 k) underlying226 xd h3;have q4:=func_of_trod (f0:=doT k) underlying228 xa h4;rw[e0,e1,e2,this,q4,x0,x1,x2]
theorem xU (h : laidMetH prog [("slumber/slumber.operations", Rows.laid_slumber_slumber_operations)] W) : Tab W := by
 rw[a5j] at h;obtain⟨g,t,cs,xf,p,hg,ht,hv,hd⟩:=h.funcs (List.mem_singleton.2 rfl);obtain rfl:=L5b (a9T.symm.trans hg);obtain rfl:=L5b (a9V.symm.trans ht);rw[a9U] at hd;obtain⟨xs,m,_,hx,hl,xd,hf⟩:=DataW.trod_array underlying231 hd;rw[a6w] at hl;rw[xV] at hf;have xb:∀k,k < 28->(cs.toList.drop (k*5)).take 5=[.int .i64 (tL k),.int .i64 (R7 k),.int .i64 (fK k),.func (.func (S4 k)) #[] #[],.func (.func (doT k)) #[] #[]]:=fun k hk=>by
  have h1:=hf k hk;have xe:xs[k]?=some (a3B k,(xs[k]' R5).2):=by
   have xc:(List.range 28).map a3B=xs.map (·.1):=by
    have:=(Prod.mk.inj hx).1;exact DataW.agg.inj this
   have h2:(xs.map (·.1))[k]?=some (a3B k):=by rw [<- xc];simp [hk]
   rw[List.getElem?_map,L1b R5] at h2;rw[L1b R5];simp only[Option.map_some,Option.some.injEq] at h2;rw[<- h2]
  rw[xe] at h1;exact a3C hk h1
 have xa:∀k j,k < 28->j < 5->W.cell? ⟨0,k*5+j,none⟩=((cs.toList.drop (k*5)).take 5)[j]?:=fun k j hk hj=>by
  rw[World.var?_cell hg hv (k*5+j),List.getElem?_take,if_pos hj,List.getElem?_drop];simp
 refine⟨?_,fun k hk=>?_⟩
 ·have:=xa 0 0 R5 R5
  rw[xb 0 R5] at this;exact World.block_lt_of_cell? _ _ this
 ·have c0:=xa k 0 hk R5
  have c1:=xa k 1 hk R5;have c2:=xa k 2 hk R5;have c3:=xa k 3 hk R5;have c4:=xa k 4 hk R5;rw[xb k hk] at c0 c1 c2 c3 c4;exact⟨c0,c1,c2,c3,c4⟩
end
theorem own:ownKnob prog.godebug=none:=by kernel_rfl
theorem a7w:laidOutB prog=true:=by kernel_rfl
theorem a0K:prog.readableRec 22=true:=by kernel_rfl
theorem a9O:22 < prog.types.size:=of_decide_eq_true Q8
theorem a4N (H:Type) (enc:TypeId × Value->H) (W:World) (base:Nat) (args:Array Value) (ds gs:List (DataW H)) (before:List MemPlace)
  (hval:∀(j:Nat) t v,Tryz.f5.params[j]?=some t->args[j]?=some v->Value.okWide prog W .any base t v)
  (hW:DataW.Whole enc prog Tryz.f5.params.toList Rows.savesSpec.vars false W args.toList ds gs before)
  (hk:Rows.uptoSmall H (ds++gs)=true)
  (hsz:(DataW.weightsEach prog (Tryz.f5.params.toList++(Rows.OpenSpec.upto Rows.savesSpec).bare.plain.varTypes prog) (ds++gs)).all (·<=reachBytes)=true)
  (hL:laidMetH prog Rows.savesUptoRow.laid W) :
  Calls prog 5 args W fun e W'=>∃v,e=.returned v/\Rows.savesSpec.post enc prog Tryz.f5 false true false false W args v W':=by
 have xg:=hW;have xk:=hW.lt;obtain⟨p,q,xf,hV,rfl,xp,xn⟩:=hW;have hA:DataW.TrodAll enc prog W 0 (fun _=>true) true Tryz.f5.params.toList args.toList ds p:=xf;rw[params5] at hA hval hsz;obtain⟨v0,xm,d0,xo,p0,q0,xe,rfl,rfl,h0,r0⟩:=trodAll_cons hA;obtain⟨rfl,rfl,rfl⟩:=trodAll_nil r0;obtain rfl:args=#[v0]:=by cases args;simp_all
 obtain⟨rfl,rfl⟩:=trodVars_none hV;clear xf;obtain⟨a0,xd,xb,rfl⟩:=okWide_slice underlying22 (hval 0 22 v0 rfl rfl);have xh:=h0;obtain⟨xl,hf⟩:=h0;have xa:Rows.uptoBulk d0<=1048576:=by
  have:=of_decide_eq_true hk;simp only[List.append_nil,Rows.uptoBulkAll] at this;omega
 obtain⟨a,c,l,hc,hs,hn,xi⟩:=tH hf (fun y hm=>by
  have xc:y∈DataW.weightsEach prog (#[22].toList++(Rows.OpenSpec.upto Rows.savesSpec).bare.plain.varTypes prog) ([d0]++[]):=by
   simp only[List.cons_append,List.nil_append,DataW.weightsEach,List.mem_append];exact L4a hm
  have:=a7e hsz xc;simpa [reachBytes] using this) xa
 have xj:Value.slice a0 xd xb=.slice a l.length c:=by simpa [Value.cells] using hc
 rw[xj] at xh xg ⊢;refine (a3M (xU hL) hs hn xi).mono fun e W' ⟨he,hb⟩=>?_
 subst he;refine⟨_,rfl,[d0],[],p0++[]++[],[],p0++[],[],xg,?_,?_,rfl,hb.frame _,fun h=>by cases h⟩
 ·exact trodAll_cons_mk (shut_bool underlying4 _) trodAll_mk0
 ·exact trodAll_cons_mk (Below.trod a7w a0K a9O xh hb (fun x hx=>xk x (by simpa using hx))) trodAll_mk0
theorem a4W (os:Os) (args:Array Value):laidMetH prog Rows.savesUptoRow.laid ((World.doorLaid prog 42 os).forCall (fun _ _=>0) ⟨#[],args,[]⟩).memory :=
 laidMetH_of_parts3 (fuel:=8) (laidMet_of_run' 8 Q8 Q8) Q8 Q8
theorem a9N (os:Os) {H:Type} (enc:TypeId × Value->H):∃places,DataW.whole enc prog ((World.doorLaid prog 42 os).forCall (fun _ _=>0) ⟨#[],#[zD],[]⟩).memory Tryz.f5.params.toList Rows.savesSpec.vars false #[Value.slice none 0 0].toList 8=some ([.nil],[],places) :=
 ⟨[],by kernel_rfl⟩
theorem a0e (os:Os) (started:os.Started) (H:Type) (enc:TypeId × Value->H) (F:Stop.Interp) :
  ReturnsInHanded {} Tryz.checked os 5 .any ((Rows.OpenSpec.upto Rows.savesSpec).preRow enc prog Tryz.f5 Rows.savesUptoRow.domain false Rows.savesUptoRow.laid) (((Rows.OpenSpec.upto Rows.savesSpec).at F).post enc prog Tryz.f5 false true false false):=by
 obtain⟨xa,hx⟩:=a9N os enc;refine returnsInHanded_of_row (C:=Tryz.checked) (s:=Rows.OpenSpec.upto Rows.savesSpec) own started Q8 func5
  (witness_row_atRef (enc:=enc) (C:=Tryz.checked) false (World.doorLaid prog 42 os) #[zD] rfl Q8 Q8 Q8
   (OpenSpec.preRow_of_cond 8 hx Q8 (fun k hk=>by cases hk;kernel_rfl) Q8 (a4W os _))) ?_
 intro W base args ds gs before hval hW _ hcond hsz hL _ _;exact a4N H enc W base args ds gs before hval hW (hcond _ rfl) hsz hL
theorem a6g:Rows.SavesUptoSaid :=
 OpenClaim.holds_of_cond 5 Tryz.f5 rfl rfl rfl rfl rfl rfl rfl ⟨rfl,rfl,rfl,rfl,rfl⟩ rfl rfl rfl rfl rfl Q8 func5 Q8
  (of_decide_eq_true Q8) (by unfold Func.isWrapper;first | (rw [if_pos (by decide +kernel)];kernel_rfl) | (rw [if_neg (by decide +kernel)];exact ⟨rfl,rfl⟩))
  (fun os started H enc _ F=>by rw [OpenClaim.pre_eq_preRow];exact a0e os started H enc F)
theorem plain (f : FuncId) (fn : Func) (hf : Tryz.pinned.checked.prog.funcNamed "slumber/slumberlaw.Saves" = some f) (hfn : Tryz.pinned.checked.prog.funcs[f]? = some fn) :
  false=Tryz.pinned.checked.prog.looks []/\∀(j:Nat) t,fn.params[j]?=some t->Tryz.pinned.checked.prog.wantsStandIn t=false:=by
 obtain rfl : f = 5 := L5b ((show prog.funcNamed "slumber/slumberlaw.Saves" = some 5 by kernel_rfl).symm.trans hf) |>.symm
 obtain rfl:fn=Tryz.f5:=(L5b (func5.symm.trans hfn)).symm;refine⟨by kernel_rfl,fun j t ht=>?_⟩;rw[params5] at ht;obtain rfl:t=22:=by simpa using Array.mem_of_getElem? ht
 exact (show prog.wantsStandIn 22=false by kernel_rfl)
theorem saves_cardUpto:Rows.SavesUptoCardSaid :=
 Claim7.holds_tied_plain_at .later [] _ _ _ _ a6g (fun _ h=>by cases h) Q8 (fun _ h=>by cases h) savesUpto_row_tie rfl ⟨rfl,rfl⟩ Q8 rfl plain Q8
end Go.Proofs.YtbkmgoffiigdbaaGreatDoor
