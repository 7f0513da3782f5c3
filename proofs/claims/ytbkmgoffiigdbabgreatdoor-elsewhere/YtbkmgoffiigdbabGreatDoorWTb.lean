import Derived.Test.YtbkmgoffiigdbabGreatDoorRows
import Derived.Test.YtbkmgoffiigdbabGreatDoorVA
import Derived.ProofKit
import Derived.OpenShut
import Derived.LaidMore
namespace Go.Proofs.YtbkmgoffiigdbabGreatDoor
open Go.ChangeShapes Go.WideShapes Go.ChangeAt Go.RowKit
set_option maxRecDepth 100000
theorem a9G : Tryz.prog.globalNamed "slumber/slumber.operations" = some 0 := by kernel_rfl
theorem a9J:(Tryz.prog.globals[0]?).map (·.type)=some 128:=by kernel_rfl
theorem a0K:Tryz.prog.cellsOf 127=5:=by kernel_rfl
theorem a8D:Tryz.prog.cellsOf 3=1:=by kernel_rfl
theorem a7m:Tryz.prog.cellsOf 122=1:=by kernel_rfl
theorem a7n:Tryz.prog.cellsOf 123=1:=by kernel_rfl
theorem a5m:Tryz.prog.cellsOf 125=1:=by kernel_rfl
theorem a7o:Tryz.prog.cellsOf 128=140:=by kernel_rfl
def a3j (k:Nat):List UInt8:=if U6 k=170 then [115,108,117,109,98,101,114,47,115,108,117,109,98,101,114,46,97,110,121,116,104,105,110,103] else if U6 k=172 then [115,108,117,109,98,101,114,47,115,108,117,109,98,101,114,46,110,111,116,104,105,110,103] else if U6 k=174 then [115,108,117,109,98,101,114,47,115,108,117,109,98,101,114,46,97,76,111,99,97,108] else if U6 k=185 then [115,108,117,109,98,101,114,47,115,108,117,109,98,101,114,46,97,110,73,110,115,116,114,117,99,116,105,111,110] else if U6 k=188 then [115,108,117,109,98,101,114,47,115,108,117,109,98,101,114,46,97,70,117,110,99,116,105,111,110] else if U6 k=191 then [115,108,117,109,98,101,114,47,115,108,117,109,98,101,114,46,97,82,101,99,111,114,100,83,105,122,101] else if U6 k=195 then [115,108,117,109,98,101,114,47,115,108,117,109,98,101,114,46,97,70,105,101,108,100] else []
def a9x:List (List UInt8):=[[115,108,117,109,98,101,114,47,115,108,117,109,98,101,114,46,100,111,73,110,116],[115,108,117,109,98,101,114,47,115,108,117,109,98,101,114,46,100,111,78,105,108],[115,108,117,109,98,101,114,47,115,108,117,109,98,101,114,46,100,111,76,111,97,100],[115,108,117,109,98,101,114,47,115,108,117,109,98,101,114,46,100,111,83,116,111,114,101],[115,108,117,109,98,101,114,47,115,108,117,109,98,101,114,46,100,111,68,117,112],[115,108,117,109,98,101,114,47,115,108,117,109,98,101,114,46,100,111,80,111,112],[115,108,117,109,98,101,114,47,115,108,117,109,98,101,114,46,100,111,83,119,97,112],[115,108,117,109,98,101,114,47,115,108,117,109,98,101,114,46,100,111,65,100,100],[115,108,117,109,98,101,114,47,115,108,117,109,98,101,114,46,100,111,83,117,98],[115,108,117,109,98,101,114,47,115,108,117,109,98,101,114,46,100,111,77,117,108],[115,108,117,109,98,101,114,47,115,108,117,109,98,101,114,46,100,111,76,101,115,115],[115,108,117,109,98,101,114,47,115,108,117,109,98,101,114,46,100,111,83,97,109,101],[115,108,117,109,98,101,114,47,115,108,117,109,98,101,114,46,100,111,74,117,109,112],[115,108,117,109,98,101,114,47,115,108,117,109,98,101,114,46,100,111,74,117,109,112,78,111,116],[115,108,117,109,98,101,114,47,115,108,117,109,98,101,114,46,100,111,67,97,108,108],[115,108,117,109,98,101,114,47,115,108,117,109,98,101,114,46,100,111,82,101,116,117,114,110],[115,108,117,109,98,101,114,47,115,108,117,109,98,101,114,46,100,111,82,101,99,111,114,100],[115,108,117,109,98,101,114,47,115,108,117,109,98,101,114,46,100,111,65,114,114,97,121],[115,108,117,109,98,101,114,47,115,108,117,109,98,101,114,46,100,111,87,101,97,107],[115,108,117,109,98,101,114,47,115,108,117,109,98,101,114,46,100,111,71,101,116],[115,108,117,109,98,101,114,47,115,108,117,109,98,101,114,46,100,111,80,117,116],[115,108,117,109,98,101,114,47,115,108,117,109,98,101,114,46,100,111,65,116],[115,108,117,109,98,101,114,47,115,108,117,109,98,101,114,46,100,111,83,101,116],[115,108,117,109,98,101,114,47,115,108,117,109,98,101,114,46,100,111,76,101,110],[115,108,117,109,98,101,114,47,115,108,117,109,98,101,114,46,100,111,83,116,114,111,110,103],[115,108,117,109,98,101,114,47,115,108,117,109,98,101,114,46,100,111,73,115,82,101,102],[115,108,117,109,98,101,114,47,115,108,117,109,98,101,114,46,100,111,80,114,105,110,116],[115,108,117,109,98,101,114,47,115,108,117,109,98,101,114,46,100,111,72,97,108,116]]
def doB (k:Nat):List UInt8:=a9x.getD k []
def a4Y (k:Nat):DataW (List UInt8):=.agg [.lit (.int .i64 (xC k)),.lit (.int .i64 (J9 k)),.lit (.int .i64 (gG k)),.held (a3j k),.held (doB k)]
def a8K:DataW Unit:=match (Rows.laid_slumber_slumber_operations:DataW Unit) with | .iface _ d=>d | d=>d
theorem a6s : (Rows.laid_slumber_slumber_operations : DataW Unit) = .iface "func table" a8K := by kernel_rfl
theorem a9I:a8K.funcsOut=.agg ((List.range 28).map a4Y):=by kernel_rfl
theorem a4v:(List.range 28).all (fun k=>((List.range Tryz.prog.funcs.size).filter fun f=>(Tryz.prog.funcs[f]?).any (·.name.toUTF8.data.toList == a3j k)) == [U6 k] && !(a3j k).isEmpty)=true:=by kernel_rfl
theorem a5Z:(List.range 28).all (fun k=>((List.range Tryz.prog.funcs.size).filter fun f=>(Tryz.prog.funcs[f]?).any (·.name.toUTF8.data.toList == doB k)) == [doT k] && !(doB k).isEmpty)=true:=by kernel_rfl
theorem a4Z {W:World} {m k:Nat} (hk:k < 28) {cs:List Value} {pl:List MemPlace} (h:DataW.trod (funcToken Tryz.prog) Tryz.prog W 0 (fun _=>true) true m 127 cs=some (a4Y k,pl)) :
  cs=[.int .i64 (xC k),.int .i64 (J9 k),.int .i64 (gG k),.func (.func (U6 k)) #[] #[],.func (.func (doT k)) #[] #[]]:=by
 obtain⟨xs,n,_,hx,hl,hlen,hf⟩:=DataW.trod_struct Tryz.underlying127 h;rw[a0K] at hl
 match cs,hl,xs,hlen with
 | [u0,u1,u2,u3,u4],_,[y0,y1,y2,y3,y4],_ =>
  have h0:DataW.trod (funcToken Tryz.prog) Tryz.prog W 0 (fun _=>true) true n 3 ((([u0,u1,u2,u3,u4]:List Value).drop 0).take (Tryz.prog.cellsOf 3))=some y0:=hf 0 _ rfl;have h1:DataW.trod (funcToken Tryz.prog) Tryz.prog W 0 (fun _=>true) true n 3 ((([u0,u1,u2,u3,u4]:List Value).drop 1).take (Tryz.prog.cellsOf 3))=some y1:=hf 1 _ rfl;have h2:DataW.trod (funcToken Tryz.prog) Tryz.prog W 0 (fun _=>true) true n 122 ((([u0,u1,u2,u3,u4]:List Value).drop 2).take (Tryz.prog.cellsOf 122))=some y2:=hf 2 _ rfl
  have h3:DataW.trod (funcToken Tryz.prog) Tryz.prog W 0 (fun _=>true) true n 123 ((([u0,u1,u2,u3,u4]:List Value).drop 3).take (Tryz.prog.cellsOf 123))=some y3:=hf 3 _ rfl;have h4:DataW.trod (funcToken Tryz.prog) Tryz.prog W 0 (fun _=>true) true n 125 ((([u0,u1,u2,u3,u4]:List Value).drop 4).take (Tryz.prog.cellsOf 125))=some y4:=hf 4 _ rfl;rw[a8D] at h0 h1;rw[a7m] at h2;rw[a7n] at h3;rw[a5m] at h4
  simp only[List.drop,List.take] at h0 h1 h2 h3 h4;simp only[a4Y,List.map,Prod.mk.injEq,DataW.agg.injEq,List.cons.injEq,and_true] at hx;obtain⟨⟨x0,x1,x2,x3,x4⟩,_⟩:=hx;obtain⟨v0,e0,q0,_⟩:=DataW.trod_int Tryz.underlying3 h0;obtain⟨v1,e1,q1,_⟩:=DataW.trod_int Tryz.underlying3 h1;obtain⟨v2,e2,q2,_⟩:=DataW.trod_int Tryz.underlying122 h2;rw[q0] at x0;rw[q1] at x1;rw[q2] at x2;simp only[DataW.lit.injEq,Lit.int.injEq,true_and] at x0 x1 x2
  simp only[List.cons.injEq,and_true] at e0 e1 e2;have hnm:=List.all_eq_true.1 a4v k (List.mem_range.2 hk);simp only[Bool.and_eq_true,beq_iff_eq,Bool.not_eq_true'] at hnm;obtain⟨hone,hne⟩:=hnm;have hnm2:=List.all_eq_true.1 a5Z k (List.mem_range.2 hk);simp only[Bool.and_eq_true,beq_iff_eq,Bool.not_eq_true'] at hnm2;obtain⟨hone2,hne2⟩:=hnm2;obtain⟨w3,p3⟩:=y3;obtain⟨w4,p4⟩:=y4;simp only at x3 x4
  subst x3 x4;generalize a3j k=nb at hone hne h3;generalize doB k=db at hone2 hne2 h4
  cases nb with
  | nil=>cases hne
  | cons b r =>
   cases db with
   | nil=>cases hne2
   | cons b' r' =>
    have:=func_of_trod (f0:=U6 k) Tryz.underlying123 hone h3;have q4:=func_of_trod (f0:=doT k) Tryz.underlying125 hone2 h4;rw[e0,e1,e2,this,q4,x0,x1,x2]
theorem oF {W : World} (h : laidMetH Tryz.prog [("slumber/slumber.operations", Rows.laid_slumber_slumber_operations)] W) : Tab W := by
 rw[a6s] at h;obtain⟨g,t,cs,fuel,p,hg,ht,hv,hd⟩:=h.funcs (List.mem_singleton.2 rfl);obtain rfl:=Option.some.inj (a9G.symm.trans hg);obtain rfl:=Option.some.inj (a9J.symm.trans ht);rw[a9I] at hd;obtain⟨xs,m,_,hx,hl,hlen,hf⟩:=DataW.trod_array Tryz.underlying128 hd;rw[a7o] at hl;rw[a0K] at hf;have hrow:∀k,k < 28→(cs.toList.drop (k*5)).take 5=[.int .i64 (xC k),.int .i64 (J9 k),.int .i64 (gG k),.func (.func (U6 k)) #[] #[],.func (.func (doT k)) #[] #[]]:=fun k hk=>by
  have h1:=hf k hk;have hxk:xs[k]?=some (a4Y k,(xs[k]' Q8).2):=by
   have hmap:(List.range 28).map a4Y=xs.map (·.1):=by
    have:=(Prod.mk.inj hx).1;exact DataW.agg.inj this
   have h2:(xs.map (·.1))[k]?=some (a4Y k):=by rw [← hmap];simp [hk]
   rw[List.getElem?_map,List.getElem?_eq_getElem Q8] at h2;rw[List.getElem?_eq_getElem Q8];simp only[Option.map_some,Option.some.injEq] at h2;rw[← h2]
  rw[hxk] at h1;exact a4Z hk h1
 have hcell:∀k j,k < 28→j < 5→W.cell? ⟨0,k*5+j,none⟩=((cs.toList.drop (k*5)).take 5)[j]?:=fun k j hk hj=>by
  rw[World.var?_cell hg hv (k*5+j),List.getElem?_take,if_pos hj,List.getElem?_drop];simp
 refine⟨?_,fun k hk=>?_⟩
 ·have:=hcell 0 0 Q8 Q8
  rw[hrow 0 Q8] at this;exact World.block_lt_of_cell? _ _ this
 ·have c0:=hcell k 0 hk Q8
  have c1:=hcell k 1 hk Q8;have c2:=hcell k 2 hk Q8;have c3:=hcell k 3 hk Q8;have c4:=hcell k 4 hk Q8;rw[hrow k hk] at c0 c1 c2 c3 c4;exact⟨c0,c1,c2,c3,c4⟩
end Go.Proofs.YtbkmgoffiigdbabGreatDoor
