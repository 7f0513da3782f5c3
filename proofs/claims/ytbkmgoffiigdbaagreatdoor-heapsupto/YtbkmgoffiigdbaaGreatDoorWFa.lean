import Derived.Test.YtbkmgoffiigdbaaGreatDoorWEg
namespace Go.Proofs.YtbkmgoffiigdbaaGreatDoor
open Go.RowKit Go.Sort
section
variable {o:Ob} {s:McA}
theorem sB {j:Nat} (ho:s.obs[j]?=some o) (hj:j∈A1 s):(I7 s).obs[j]?=some (K7 (Z1 s.obs (A1 s)) o):=by
 show (R9 s.obs (A1 s))[j]?=_;rw[Z2,ho,Option.map_some,if_pos hj]
theorem bR {all:List Ob} (h:o.1≠3):K7 all o=o:=by unfold K7;rw [if_neg (fun hc=>h hc.1)]
theorem tA {g:PgR} (h:D4 g s) (v:Val):eA (Z1 s.obs (A1 s)) v=true↔¬(v.1=2/\v.2.toNat∈A1 s):=by
 unfold eA;by_cases h2:v.1=2
 ·rw [if_pos h2,cW]
  by_cases hin:v.2.toNat∈A1 s
  ·obtain ⟨o,ho,xa⟩:=bN h hin
   simp[ho,hin,xa,h2]
  ·cases ho:s.obs[v.2.toNat]? with
   | none=>simp [hin]
   | some o=>simp [hin]
 ·simp [h2]
end
theorem iS (r:Nat->Nat) (z:Int):ren r (1,z)=(1,z):=K4 (show (1:Int)≠2 by decide)
theorem Z7 (r:Nat->Nat):ren r (0,0)=(0,0):=K4 R3
theorem sQ {r:Nat->Nat} (l:List Val) (i:Nat):(l.map (ren r)).getD i (0,0)=ren r (l.getD i (0,0)):=by
 rw[List.getD_eq_getElem?_getD,List.getD_eq_getElem?_getD,List.getElem?_map]
 cases l[i]? with
 | none=>exact (Z7 r).symm
 | some x=>rfl
section
variable {g:PgR} {s:McA}
theorem a2c (h:D4 g s):(A1 s).length<=I8 s.obs:=by
 rw[cY];refine eC h.alive.nodup fun j hj=>?_
 obtain⟨o,ho,xa⟩:=bN h hj;rw[List.mem_filter,List.mem_range];exact⟨(L1a.1 ho).1,by rw [ho];simp [xa]⟩
theorem a1N (obs:List Ob):I8 obs<=obs.length:=List.length_filter_le _ _
theorem sP (h:D4 g s):I8 (G0 s).obs=(G0 s).obs.length↔(A1 s).length=s.obs.length:=by
 unfold G0;have h1:=a2c h;have h2:=a1N s.obs;split
 ·rename_i e
  rw[fL h];show _=(R9 _ _).length↔_;rw[S4]
 ·rename_i e
  constructor
  ·intro q;exact absurd q e
  ·intro q;exact absurd R4 e
theorem a3S (h:D4 g s) {j:Nat} {o:Ob} (ho:s.obs[j]?=some o) (h3:o.1=3):VOk s.obs (o.2.headD (0,0)):=by
 rcases h.obs o (L2a ho) with ⟨e,_⟩ | ⟨e,_⟩ | ⟨e,_⟩ | ⟨_,u,e,hu,_⟩
 ·omega
 ·omega
 ·omega
 ·rw [e];exact hu
end
section
theorem wO (n:Nat):∀v,v∈List.replicate n ((0,0):Val)->v.1≠2:=fun v hv=>by rw [(List.mem_replicate.1 hv).2];show (0:Int)≠2;decide
section
variable {g:PgR} {r:Nat->Nat} {s t:McA} {fs:List FrA} {f:FrA} {rest args:List Val}
theorem vV (x:Val):L0 (ren r x)=L0 x:=by
 unfold L0;by_cases h2:x.1=2
 ·rw [I3];simp [h2]
 ·rw [K4 h2]
theorem a2P (y:Val):y.1=1->(ren r y).2=y.2:=fun h=>by rw [K4 R4]
end
end
end Go.Proofs.YtbkmgoffiigdbaaGreatDoor
namespace Go.Proofs.YtbkmgoffiigdbaaGreatDoor

open Go.RowKit Go.Sort
open Go.RowKit Go.Sort
end Go.Proofs.YtbkmgoffiigdbaaGreatDoor
