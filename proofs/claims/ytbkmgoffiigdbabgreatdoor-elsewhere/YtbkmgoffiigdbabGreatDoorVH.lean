import Derived.Test.YtbkmgoffiigdbabGreatDoorCards
import Derived.Test.YtbkmgoffiigdbabGreatDoorTie
import Derived.Test.YtbkmgoffiigdbabGreatDoorVM
import Derived.Test.YtbkmgoffiigdbabGreatDoorWTb
import Derived.Deep.DeepHandedRow
import Derived.Deep.DeepWitnessRowRef
namespace Go.Proofs.YtbkmgoffiigdbabGreatDoor
open Go.ChangeShapes Go.WideShapes Go.ChangeAt Go.RowKit
set_option maxRecDepth 100000
theorem a9z:ownKnob Tryz.prog.godebug=none:=by kernel_rfl
theorem V8:laidOutB Tryz.prog=true:=by kernel_rfl
theorem cF:Tryz.prog.readableRec 22=true:=by kernel_rfl
theorem rU:22 < Tryz.prog.types.size:=of_decide_eq_true Q4
theorem rT:Tryz.prog.readableRec 4=true:=by kernel_rfl
theorem a8M:4 < Tryz.prog.types.size:=of_decide_eq_true Q4
theorem a7Y:Tryz.prog.cellsOf 3=1:=by kernel_rfl
theorem a7X:Tryz.prog.bytesOf 3=8:=by kernel_rfl
theorem vF {n:Int} (h:(Lit.int .i64 n).wf=true) : -9223372036854775808≤n∧n≤9223372036854775807:=by
 have h':=h;simp only[Lit.wf,Bool.and_eq_true,decide_eq_true_eq] at h';exact h'
theorem hY {H:Type} {enc:TypeId × Value→H} {W:World} {fuel:Nat} {cs:List Value} {x:DataW H × List MemPlace} (h:DataW.trod enc Tryz.prog W 0 (fun _=>true) true fuel 22 cs=some x) (hw:∀y∈x.1.weights Tryz.prog 22,y≤140737488351232) :
  ∃a n c b o R,cs=[.slice a n c]∧W7 W.heap.size W a n b o R∧n≤c:=by
 rcases open_ints Tryz.underlying22 Tryz.underlying3 a7Y h with ⟨hcs,_⟩ | ⟨a,len,cap,zs,hcs,_,hlc,hm,hz,hx,hcell,hwf⟩
 ·exact ⟨none,0,0,0,0,fun _=>0,hcs,⟨by omega,fun hn=>absurd hn Q8,fun _=>⟨(show (-9223372036854775808:Int)≤0 by decide),(show (0:Int)≤9223372036854775807 by decide)⟩⟩,Nat.le_refl _⟩
 ·simp only [if_true] at hz
  have hwl:cap*8≤140737488351232:=by
   have hmem:(len+(cap - len))*8∈x.1.weights Tryz.prog 22:=by
    rw[hx];simp[DataW.weights,Tryz.underlying22,a7X,lits,hz]
    try omega
   have:=hw _ hmem;rwa [show len+(cap - len)=cap by omega] at this
  refine⟨some a,len,cap,a.block,a.off,fun i=>zs.getD i 0,hcs,⟨by omega,fun hn=>?_,fun i=>?_⟩,hlc⟩
  ·have c0:=hcell 0 Q8
   have hadd:a.add 0=a:=by simp [Addr.add]
   rw[hadd] at c0;obtain⟨b,o,spot⟩:=a;have hspot:spot=none:=World.cell?_spot c0;subst hspot;refine⟨rfl,World.block_lt_of_cell? _ _ c0,fun i hi=>?_⟩;have:=hcell i Q8;rwa [add_plain] at this
  ·by_cases e:i < zs.length
   ·refine vF (hwf _ ?_)
    show zs.getD i 0∈zs;rw[List.getD_eq_getElem?_getD,List.getElem?_eq_getElem e];exact List.getElem_mem e
   ·show -9223372036854775808≤zs.getD i 0∧zs.getD i 0≤9223372036854775807
    rw[List.getD_eq_getElem?_getD,List.getElem?_eq_none Q8];exact⟨by decide,by decide⟩
theorem hE {l:List Nat} {b:Nat} (h:l.all (·≤b)=true) {x:Nat} (hx:x∈l):x≤b:=by
 have:=List.all_eq_true.1 h x hx;simpa using this
end Go.Proofs.YtbkmgoffiigdbabGreatDoor
