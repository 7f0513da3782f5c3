import Derived.Test.YtbkmgoffiigdbaaGreatDoorVEb
namespace Go.Proofs.YtbkmgoffiigdbaaGreatDoor
open Go.RowKit Go.Sort
section
variable {o:Ob} {s:McA}
theorem vN {j:Nat} (ho:s.obs[j]?=some o) (hj:j∈A0 s):(J4 s).obs[j]?=some (L2 (bH s.obs (A0 s)) o):=by
 show (V3 s.obs (A0 s))[j]?=_;rw[Z2,ho,Option.map_some,if_pos hj]
theorem dN {all:List Ob} (h:o.1≠3):L2 all o=o:=by unfold L2;rw [if_neg (fun hc=>h hc.1)]
theorem wR {g:PgR} (h:C8 g s) (v:Val):gD (bH s.obs (A0 s)) v=true↔¬(v.1=2/\v.2.toNat∈A0 s):=by
 unfold gD;by_cases h2:v.1=2
 ·rw [if_pos h2,fE]
  by_cases hin:v.2.toNat∈A0 s
  ·obtain ⟨o,ho,xa⟩:=dH h hin
   simp[ho,hin,xa,h2]
  ·cases ho:s.obs[v.2.toNat]? with
   | none=>simp [hin]
   | some o=>simp [hin]
 ·simp [h2]
end
theorem kU (r:Nat->Nat) (z:Int):ren r (1,z)=(1,z):=I8 (show (1:Int)≠2 by decide)
theorem bL (r:Nat->Nat):ren r (0,0)=(0,0):=I8 R4
theorem wF {r:Nat->Nat} (l:List Val) (i:Nat):(l.map (ren r)).getD i (0,0)=ren r (l.getD i (0,0)):=by
 rw[List.getD_eq_getElem?_getD,List.getD_eq_getElem?_getD,List.getElem?_map]
 cases l[i]? with
 | none=>exact (bL r).symm
 | some x=>rfl
section
variable {g:PgR} {s:McA}
theorem a4z (h:C8 g s):(A0 s).length<=L3 s.obs:=by
 rw[fG];refine gF h.alive.nodup fun j hj=>?_
 obtain⟨o,ho,xa⟩:=dH h hj;rw[List.mem_filter,List.mem_range];exact⟨(L1a.1 ho).1,by rw [ho];simp [xa]⟩
theorem a4c (obs:List Ob):L3 obs<=obs.length:=List.length_filter_le _ _
theorem wE (h:C8 g s):L3 (F9 s).obs=(F9 s).obs.length↔(A0 s).length=s.obs.length:=by
 unfold F9;have h1:=a4z h;have h2:=a4c s.obs;split
 ·rename_i e
  rw[iH h];show _=(V3 _ _).length↔_;rw[T8]
 ·rename_i e
  constructor
  ·intro q;exact absurd q e
  ·intro q;exact absurd R5 e
theorem a6B (h:C8 g s) {j:Nat} {o:Ob} (ho:s.obs[j]?=some o) (h3:o.1=3):VOk s.obs (o.2.headD (0,0)):=by
 rcases h.obs o (L2a ho) with ⟨e,_⟩ | ⟨e,_⟩ | ⟨e,_⟩ | ⟨_,u,e,hu,_⟩
 ·omega
 ·omega
 ·omega
 ·rw [e];exact hu
end
section
theorem a0m (n:Nat):∀v,v∈List.replicate n ((0,0):Val)->v.1≠2:=fun v hv=>by rw [(List.mem_replicate.1 hv).2];show (0:Int)≠2;decide
section
variable {g:PgR} {r:Nat->Nat} {s t:McA} {fs:List FrA} {f:FrA} {rest args:List Val}
theorem zU (x:Val):M7 (ren r x)=M7 x:=by
 unfold M7;by_cases h2:x.1=2
 ·rw [G3];simp [h2]
 ·rw [I8 h2]
theorem a5n (y:Val):y.1=1->(ren r y).2=y.2:=fun h=>by rw [I8 R5]
end
end
end Go.Proofs.YtbkmgoffiigdbaaGreatDoor
namespace Go.Proofs.YtbkmgoffiigdbaaGreatDoor

open Go.RowKit Go.Sort
end Go.Proofs.YtbkmgoffiigdbaaGreatDoor
namespace Go.Proofs.YtbkmgoffiigdbaaGreatDoor
open Go.RowKit Go.Sort
def ixA:List Nat->Nat->Option Nat
 | [],_=>none
 | a::l,x=>if a=x then some 0 else (ixA l x).map (·+1)
theorem a5m {l:List Nat} {x:Nat} (h:x∉l):ixA l x=none:=by
 induction l with
 | nil=>rfl
 | cons a l ih =>
  rw[ixA,if_neg (fun e=>h (by simp [e])),ih (fun e=>h (by simp [e]))];rfl
def J8 (al:List Nat) (v:Val):Val:=if v.1=2 then (match ixA al v.2.toNat with | some i=>(2,(i:Int)) | none=>(0,0)) else v
def oY (al:List Nat) (f:FrA):FrA:=⟨f.fn,f.pc,f.loc.map (J8 al),f.stk.map (J8 al)⟩
def cZ (s:McA) (j:Nat):Ob:=match s.obs[j]? with | some o=>(o.1,o.2.map (J8 (A0 s))) | none=>(0,[])
def N8 (s:McA):McA:=⟨s.st,s.out,s.frs.map (oY (A0 s)),(A0 s).map (cZ s),[]⟩
end Go.Proofs.YtbkmgoffiigdbaaGreatDoor
