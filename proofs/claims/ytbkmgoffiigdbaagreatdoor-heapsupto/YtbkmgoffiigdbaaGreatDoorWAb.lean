import Derived.Test.YtbkmgoffiigdbaaGreatDoorWAa
namespace Go.Proofs.YtbkmgoffiigdbaaGreatDoor
open Go.RowKit Go.Sort
section
variable {r:Nat->Nat}
structure Vat (sl:List Int) (s t:McA) (fs:List FrA) (f:FrA) (rest args:List Val):Prop where
 v:C8 sl s t
 frs:s.frs=fs++[f]
 stk:f.stk=rest++args
variable {sl:List Int} {s t:McA} {fs:List FrA} {f:FrA} {rest args:List Val}
theorem Vat.fin (h:Vat sl s t fs f rest args):VSs sl (f.loc++f.stk):=h.v.frame (by rw [h.frs];simp)
theorem Vat.loc (h:Vat sl s t fs f rest args):VSs sl f.loc:=h.fin.left
theorem Vat.rst (h:Vat sl s t fs f rest args):VSs sl rest:=by
 have:=h.fin.right;rw[h.stk] at this;exact this.left
theorem Vat.arg (h:Vat sl s t fs f rest args):VSs sl args:=by
 have:=h.fin.right;rw[h.stk] at this;exact this.right
theorem Vat.low (h:Vat sl s t fs f rest args) {x:FrA} (hx:x∈fs):VSs sl (x.loc++x.stk):=h.v.frame (by rw [h.frs];simp [hx])
theorem Vat.put (h:Vat sl s t fs f rest args) (st:Int) (out:List Int) (fl:List FrA) (hin:∀x,x∈fl->x∈fs\/VSs sl (x.loc++x.stk)) :
  C8 sl ⟨st,out,fl,s.obs,s.dr⟩ ⟨st,out,fl.map (G4 (sig sl)),t.obs,t.dr⟩:=by
 rw[h.v.dr];refine h.v.put st out fl s.dr fun x hx=>?_
 rcases hin x hx with hx | hx
 ·exact h.low hx
 ·exact hx
theorem Vat.goA (h:Vat sl s t fs f rest args) (pc:Nat) (l l':List Val) (hl:VSs sl l) (hl':l'=l.map (ren (sig sl))):C8 sl (goA s fs f pc l) (goA t (fs.map (G4 (sig sl))) (G4 (sig sl) f) pc l'):=by
 subst hl';have:=h.put 0 s.out (fs++[⟨f.fn,pc,f.loc,l⟩]) (fun x hx=>by
  rcases List.mem_append.1 hx with hx | hx
  ·exact L4a hx
  ·rw [List.mem_singleton] at hx;subst hx;exact L4b (h.loc.app hl))
 simp only[List.map_append,List.map_cons,List.map_nil] at this;show C8 sl ⟨0,s.out,fs++[⟨f.fn,pc,f.loc,l⟩],s.obs,s.dr⟩ ⟨0,t.out,fs.map (G4 (sig sl))++[⟨f.fn,pc,f.loc.map (ren (sig sl)),l.map (ren (sig sl))⟩],t.obs,t.dr⟩;rw[h.v.out];exact this
theorem C8.trap (h:C8 sl s t) (st:Int):C8 sl (C7 s st) (C7 t st) :=
 ⟨rfl,h.out,h.dr,h.frs,h.len,h.bd,h.inj,h.obs,h.free,h.vals,h.orefs,h.within,h.kinds⟩
theorem Vat.reckon {x y:Val} (h:Vat sl s t fs f rest args) (z:Val->Val->Int):C8 sl (F6 s fs f rest x y (z x y)) (F6 t (fs.map (G4 (sig sl))) (G4 (sig sl) f) (rest.map (ren (sig sl))) (ren (sig sl) x) (ren (sig sl) y) (z (ren (sig sl) x) (ren (sig sl) y))):=by
 unfold F6;rw[I3,I3];by_cases hc:x.1=1/\y.1=1
 ·rw [if_pos hc,if_pos hc,K4 (show x.1≠2 by omega),K4 (show y.1≠2 by omega)]
  exact h.goA _ _ _ (h.rst.app (VSs.plain (show (1:Int)≠2 by decide))) (by rw [List.map_append,List.map_cons,List.map_nil,iS])
 ·rw [if_neg hc,if_neg hc];exact h.v.trap _
theorem Vat.call (g:PgR) (h:Vat sl s t fs f rest args) (a:Int) (l:List Val) (hl:VSs sl l):C8 sl (aB g a s fs f rest l) (aB g a t (fs.map (G4 (sig sl))) (G4 (sig sl) f) (rest.map (ren (sig sl))) (l.map (ren (sig sl)))):=by
 unfold aB;rw[List.length_map];by_cases hc:12<=fs.length+1
 ·rw [if_pos hc,if_pos hc];exact h.v.trap _
 ·rw [if_neg hc,if_neg hc]
  have:=h.put 0 s.out (fs++[⟨f.fn,f.pc,f.loc,rest⟩]++[⟨a.toNat,0,l++List.replicate ((g.f a.toNat).l.toNat - l.length) (0,0),[]⟩]) (fun x hx=>by
   rcases List.mem_append.1 hx with hx | hx
   ·rcases List.mem_append.1 hx with hx | hx
    ·exact L4a hx
    ·rw [List.mem_singleton] at hx;subst hx;exact L4b (h.loc.app h.rst)
   ·rw [List.mem_singleton] at hx;subst hx;exact L4b ((hl.app (VSs.nils _)).app VSs.nil))
  simp only[List.map_append,List.map_cons,List.map_nil,G4,List.map_replicate,Z7] at this;rw[h.v.out,List.length_map];exact this
theorem Vat.return (h:Vat sl s t fs f rest args) {x:Val} (hx:VS sl x):C8 sl (D2 s fs x) (D2 t (fs.map (G4 (sig sl))) (ren (sig sl) x)):=by
 unfold D2;rw[List.getLast?_map]
 cases hl:fs.getLast? with
 | none =>
  have:=h.put 1 s.out [] (fun x hx=>by simp at hx);simp only[List.map_nil] at this;show C8 sl ⟨1,s.out,[],s.obs,s.dr⟩ ⟨1,t.out,[],t.obs,t.dr⟩;rw[h.v.out];exact this
 | some c =>
  have hc:c∈fs:=List.mem_of_getLast? hl;have:=h.put 0 s.out (fs.dropLast++[⟨c.fn,c.pc+1,c.loc,c.stk++[x]⟩]) (fun y hy=>by
   rcases List.mem_append.1 hy with hy | hy
   ·exact L4a (List.dropLast_subset _ hy)
   ·rw [List.mem_singleton] at hy
    subst hy;have:=h.low hc;exact L4b (this.left.app (this.right.app (VSs.one hx))))
  simp only[List.map_append,List.map_cons,List.map_nil,G4,List.map_dropLast] at this;simp only[Option.map_some];show C8 sl ⟨0,s.out,fs.dropLast++[⟨c.fn,c.pc+1,c.loc,c.stk++[x]⟩],s.obs,s.dr⟩ ⟨0,t.out,(fs.map (G4 (sig sl))).dropLast++[⟨c.fn,c.pc+1,c.loc.map (ren (sig sl)),c.stk.map (ren (sig sl))++[ren (sig sl) x]⟩],t.obs,t.dr⟩;rw[h.v.out];exact this
theorem mI {o:Ob} {kind:Int} {ix ix':Val} (hi1:ix'.1=ix.1) (hi2:ix.1=1->ix'.2=ix.2):F8 (o.1,o.2.map (ren r)) kind ix'=F8 o kind ix:=by
 unfold F8;rw[hi1];by_cases hc:o.1≠kind\/ix.1≠1
 ·rw [if_pos hc,if_pos hc]
 ·rw [if_neg hc,if_neg hc,hi2 (Decidable.not_not.1 fun e=>hc (L4b e)),List.length_map]
theorem Vat.get (h:Vat sl s t fs f rest args) {v ix ix':Val} (hv:VS sl v) (kind:Int) (hi1:ix'.1=ix.1) (hi2:ix.1=1->ix'.2=ix.2) :
  C8 sl (cA s fs f rest v kind ix) (cA t (fs.map (G4 (sig sl))) (G4 (sig sl) f) (rest.map (ren (sig sl))) (ren (sig sl) v) kind ix'):=by
 unfold cA;rw[h.v.referred hv,mI hi1 hi2];by_cases h0:F8 (A0 s.obs v) kind ix=0
 ·rw [if_pos h0,if_pos h0]
  obtain⟨q1,q2,_⟩:=eE h0;refine h.goA _ _ _ (h.rst.app ((h.v.fields hv).getD _)) ?_;rw[hi2 q2,sQ,List.map_append];rfl
 ·rw [if_neg h0,if_neg h0];exact h.v.trap _
theorem C8.setO (h:C8 sl s t) {i:Nat} (hi:I0 sl i) {o:Ob} (hk:o.1≠0) (ho:VSs sl o.2) (st:Int) (out:List Int) (fl:List FrA) (dr:List Int) (hin:∀f,f∈fl->VSs sl (f.loc++f.stk)) :
  C8 sl ⟨st,out,fl,s.obs.set i o,dr⟩ ⟨st,out,fl.map (G4 (sig sl)),t.obs.set (sig sl i) (o.1,o.2.map (ren (sig sl))),dr⟩:=by
 have xb:i < s.obs.length:=by rw [<- h.len];exact hi.lt
 refine⟨rfl,rfl,rfl,rfl,by rw [List.length_set];exact h.len,fun j x hx=>by rw [List.length_set];exact h.bd j x hx,h.inj,fun j p hp hj=>?_,fun k p hp hk2=>?_,fun v hv=>?_,fun j p hp hj v hv=>?_,fun p hp v hv h2=>?_,fun p hp=>?_⟩
 ·by_cases e:i=j
  ·subst e
   obtain⟨q,_,hq⟩:=h.get hi;rw[List.getElem?_set_self xb] at hp
   cases hp;exact List.getElem?_set_self (L1a.1 hq).1
  ·rw [List.getElem?_set_ne e] at hp
   have:=h.obs j p hp hj;show (t.obs.set (sig sl i) _)[sig sl j]?=_;rw[List.getElem?_set_ne fun e2=>e (h.inj2 hi hj e2)];exact this
 ·obtain ⟨x,hx,x0⟩:=hi
  have xc:sig sl i≠k:=fun e=>hk2 i (by rw [hx,<- e,bE hx];congr 1;omega)
  have xa:(t.obs.set (sig sl i) (o.1,o.2.map (ren (sig sl))))[k]?=some p:=hp;rw[List.getElem?_set_ne xc] at xa;exact h.free k p xa hk2
 ·obtain ⟨f,hf,hv⟩:=F9.1 hv
  exact hin f hf v hv
 ·by_cases e:i=j
  ·subst e
   rw[List.getElem?_set_self xb] at hp
   cases hp;exact ho v hv
  ·rw [List.getElem?_set_ne e] at hp
   exact h.orefs j p hp hj v hv
 ·show v.2.toNat < (s.obs.set i o).length
  rw[List.length_set];rcases List.mem_or_eq_of_mem_set hp with hp | rfl
  ·exact h.within p hp v hv h2
  ·rw [<- h.len]
   exact (ho v hv h2).2.lt
 ·rcases List.mem_or_eq_of_mem_set hp with hp | rfl
  ·exact h.kinds p hp
  ·exact hk
theorem Vat.set (h:Vat sl s t fs f rest args) {v ix ix' y:Val} (hv:VS sl v) (hy:VS sl y) (kind:Int) (hk0:kind≠0) (hi1:ix'.1=ix.1) (hi2:ix.1=1->ix'.2=ix.2) :
  C8 sl (setE s fs f rest v kind ix y) (setE t (fs.map (G4 (sig sl))) (G4 (sig sl) f) (rest.map (ren (sig sl))) (ren (sig sl) v) kind ix' (ren (sig sl) y)):=by
 unfold setE;rw[h.v.referred hv,mI hi1 hi2];by_cases h0:F8 (A0 s.obs v) kind ix=0
 ·rw [if_pos h0,if_pos h0]
  obtain⟨q1,q2,_⟩:=eE h0;have h2:v.1=2:=by
   by_cases h2:v.1=2
   ·exact h2
   ·exfalso
    have e1:A0 s.obs v=(0,[]):=by unfold A0;rw [if_neg h2]
    rw[e1] at q1;exact hk0 q1.symm
  have:=h.v.setO (hv h2).2 (o:=((A0 s.obs v).1,(A0 s.obs v).2.set ix.2.toNat y)) (by show (A0 s.obs v).1≠0;rw [q1];exact hk0) ((h.v.fields hv).set _ hy) 0 s.out (fs++[⟨f.fn,f.pc+1,f.loc,rest⟩]) s.dr (fun x hx=>by
   rcases List.mem_append.1 hx with hx | hx
   ·exact h.low hx
   ·rw [List.mem_singleton] at hx;subst hx;exact h.loc.app h.rst)
  simp only[List.map_append,List.map_cons,List.map_nil,G4,List.map_set] at this;rw[h.v.out,h.v.dr,hi2 q2,iT h2];exact this
 ·rw [if_neg h0,if_neg h0];exact h.v.trap _
theorem VS.plain {v:Val} (h:v.1≠2):VS sl v:=fun h2=>absurd h2 h
theorem C8.strongS (_:C8 sl s t) (v:Val) (hv:VS sl v):VSs sl [O7 s v]:=by
 unfold O7;split
 ·exact VSs.one hv
 ·exact VSs.plain (show (0:Int)≠2 by decide)
theorem oH (l:List Val):(l.map (ren r)).headD (0,0)=ren r (l.headD (0,0)):=by
 cases l with
 | nil=>exact (Z7 r).symm
 | cons x l=>rfl
theorem a4D (g:PgR) (h:Vat sl s t fs f rest args) {k:Nat} {a:Int} (o:fC g f k a rest args) (hk:k < 28) (h16:k≠16) (h17:k≠17) (h18:k≠18) :
  C8 sl (doA g k a s fs f rest args) (doA g k a t (fs.map (G4 (sig sl))) (G4 (sig sl) f) (rest.map (ren (sig sl))) (args.map (ren (sig sl)))):=by
 have hn:=o.pops;have p1:∀z:Int,VSs sl [(1,z)]:=fun z=>VSs.plain (show (1:Int)≠2 by decide)
 have xa:k=0\/k=1\/k=2\/k=3\/k=4\/k=5\/k=6\/k=7\/k=8\/k=9\/k=10\/k=11\/k=12\/k=13\/k=14\/k=15\/k=19\/k=20\/k=21\/k=22\/k=23\/k=24\/k=25\/k=26\/k=27:=by omega
 clear h16 h17 h18 hk;rcases xa with rfl | rfl | rfl | rfl | rfl | rfl | rfl | rfl | rfl | rfl | rfl | rfl | rfl | rfl | rfl | rfl | rfl | rfl | rfl | rfl | rfl | rfl | rfl | rfl | rfl
 ·obtain rfl:=O6 hn rfl
  exact h.goA _ _ _ (h.rst.app (p1 _)) (by rw [List.map_append,List.map_cons,List.map_nil,iS])
 ·obtain rfl:=O6 hn rfl
  exact h.goA _ _ _ (h.rst.app (VSs.plain (show (0:Int)≠2 by decide))) (by rw [List.map_append,List.map_cons,List.map_nil,Z7])
 ·obtain rfl:=O6 hn rfl
  exact h.goA _ _ _ (h.rst.app (h.loc.getD _)) (by rw [List.map_append,List.map_cons,List.map_nil,<- sQ];rfl)
 ·obtain ⟨x,rfl⟩:=F4 hn rfl
  have:=h.put 0 s.out (fs++[⟨f.fn,f.pc+1,f.loc.set a.toNat x,rest⟩]) (fun y hy=>by
   rcases List.mem_append.1 hy with hy | hy
   ·exact L4a hy
   ·rw [List.mem_singleton] at hy;subst hy;exact L4b ((h.loc.set _ (h.arg x R5)).app h.rst))
  simp only[List.map_append,List.map_cons,List.map_nil,G4,List.map_set] at this;show C8 sl ⟨0,s.out,fs++[⟨f.fn,f.pc+1,f.loc.set a.toNat x,rest⟩],s.obs,s.dr⟩ ⟨0,t.out,fs.map (G4 (sig sl))++[⟨f.fn,f.pc+1,(f.loc.map (ren (sig sl))).set a.toNat (ren (sig sl) x),rest.map (ren (sig sl))⟩],t.obs,t.dr⟩;rw[h.v.out];exact this
 ·obtain ⟨x,rfl⟩:=F4 hn rfl
  exact h.goA _ _ _ (h.rst.app (fun v hv=>h.arg v (by simp at hv ⊢;exact hv))) (by rw [List.map_append];rfl)
 ·obtain ⟨x,rfl⟩:=F4 hn rfl
  exact h.goA _ _ _ h.rst rfl
 ·obtain ⟨x,y,rfl⟩:=K0 hn rfl
  exact h.goA _ _ _ (h.rst.app (fun v hv=>h.arg v (by simp at hv ⊢;exact hv.symm))) (by rw [List.map_append];rfl)
 ·obtain ⟨x,y,rfl⟩:=K0 hn rfl
  exact h.reckon fun x y=>wrap64 (x.2+y.2)
 ·obtain ⟨x,y,rfl⟩:=K0 hn rfl
  exact h.reckon fun x y=>wrap64 (x.2 - y.2)
 ·obtain ⟨x,y,rfl⟩:=K0 hn rfl
  exact h.reckon fun x y=>wrap64 (x.2*y.2)
 ·obtain ⟨x,y,rfl⟩:=K0 hn rfl
  exact h.reckon fun x y=>C9 (decide (x.2 < y.2))
 ·obtain ⟨x,y,rfl⟩:=K0 hn rfl
  have e:=h.v.same (h.arg x R5) (h.arg y R5);refine h.goA _ _ _ (h.rst.app (p1 _)) ?_;rw[List.map_append,List.map_cons,List.map_nil,iS,e]
 ·obtain rfl:=O6 hn rfl
  exact h.goA _ _ _ h.rst rfl
 ·obtain ⟨x,rfl⟩:=F4 hn rfl
  show C8 sl (if L0 x then goA s fs f (f.pc+1) rest else goA s fs f a.toNat rest) (if L0 (ren (sig sl) x) then goA t (fs.map (G4 (sig sl))) (G4 (sig sl) f) (f.pc+1) (rest.map (ren (sig sl))) else goA t (fs.map (G4 (sig sl))) (G4 (sig sl) f) a.toNat (rest.map (ren (sig sl))));rw[vV];split
  ·exact h.goA _ _ _ h.rst rfl
  ·exact h.goA _ _ _ h.rst rfl
 ·exact h.call g a args h.arg
 ·obtain ⟨x,rfl⟩:=F4 hn rfl
  exact h.return (h.arg x R5)
 ·obtain ⟨x,rfl⟩:=F4 hn rfl
  exact h.get (ix:=(1,a)) (ix':=(1,a)) (h.arg x R5) 1 rfl fun _=>rfl
 ·obtain ⟨x,y,rfl⟩:=K0 hn rfl
  exact h.set (ix:=(1,a)) (ix':=(1,a)) (h.arg x R5) (h.arg y R5) 1 R3 rfl fun _=>rfl
 ·obtain ⟨x,y,rfl⟩:=K0 hn rfl
  exact h.get (ix:=y) (ix':=ren (sig sl) y) (h.arg x R5) 2 (I3 _ y) (a2P y)
 ·obtain ⟨x,y,z,rfl⟩:=yV hn rfl
  exact h.set (ix:=y) (ix':=ren (sig sl) y) (h.arg x R5) (h.arg z R5) 2 R3 (I3 _ y) (a2P y)
 ·obtain ⟨x,rfl⟩:=F4 hn rfl
  show C8 sl (if (A0 s.obs x).1=1\/(A0 s.obs x).1=2 then goA s fs f (f.pc+1) (rest++[(1,((A0 s.obs x).2.length:Int))]) else C7 s 2) (if (A0 t.obs (ren (sig sl) x)).1=1\/(A0 t.obs (ren (sig sl) x)).1=2 then goA t (fs.map (G4 (sig sl))) (G4 (sig sl) f) (f.pc+1) (rest.map (ren (sig sl))++[(1,((A0 t.obs (ren (sig sl) x)).2.length:Int))]) else C7 t 2);rw[h.v.referred (h.arg x R5)]
  by_cases hc:(A0 s.obs x).1=1\/(A0 s.obs x).1=2
  ·rw [if_pos hc,if_pos hc,List.length_map]
   exact h.goA _ _ _ (h.rst.app (p1 _)) (by rw [List.map_append,List.map_cons,List.map_nil,iS])
  ·rw [if_neg hc,if_neg hc];exact h.v.trap _
 ·obtain ⟨x,rfl⟩:=F4 hn rfl
  show C8 sl (if (A0 s.obs x).1=3 then goA s fs f (f.pc+1) (rest++[O7 s ((A0 s.obs x).2.headD (0,0))]) else C7 s 2) (if (A0 t.obs (ren (sig sl) x)).1=3 then goA t (fs.map (G4 (sig sl))) (G4 (sig sl) f) (f.pc+1) (rest.map (ren (sig sl))++[O7 t ((A0 t.obs (ren (sig sl) x)).2.headD (0,0))]) else C7 t 2);have hx:=h.arg x R5;rw[h.v.referred hx];have hh:VS sl ((A0 s.obs x).2.headD (0,0)):=by
   have:=(h.v.fields hx).getD 0;rw[show (A0 s.obs x).2.headD (0,0)=(A0 s.obs x).2.getD 0 (0,0) from by cases (A0 s.obs x).2 <;> rfl];exact this _ R5
  by_cases hc:(A0 s.obs x).1=3
  ·rw [if_pos hc,if_pos hc]
   exact h.goA _ _ _ (h.rst.app (h.v.strongS _ hh)) (by rw [List.map_append,List.map_cons,List.map_nil,oH,h.v.strong hh])
  ·rw [if_neg hc,if_neg hc];exact h.v.trap _
 ·obtain ⟨x,rfl⟩:=F4 hn rfl
  refine h.goA _ _ _ (h.rst.app (p1 _)) ?_;rw[List.map_append,List.map_cons,List.map_nil,iS,I3]
 ·obtain ⟨x,rfl⟩:=F4 hn rfl
  show C8 sl (if x.1≠1 then C7 s 2 else if 40<=s.out.length then C7 s 7 else ⟨0,s.out++[x.2],fs++[⟨f.fn,f.pc+1,f.loc,rest⟩],s.obs,s.dr⟩) (if (ren (sig sl) x).1≠1 then C7 t 2 else if 40<=t.out.length then C7 t 7 else ⟨0,t.out++[(ren (sig sl) x).2],fs.map (G4 (sig sl))++[⟨f.fn,f.pc+1,f.loc.map (ren (sig sl)),rest.map (ren (sig sl))⟩],t.obs,t.dr⟩);by_cases hx1:x.1=1
  ·have ex:ren (sig sl) x=x:=K4 R4
   rw[ex,h.v.out,if_neg (not_not_intro hx1),if_neg (not_not_intro hx1)];by_cases hc:40<=s.out.length
   ·rw [if_pos hc,if_pos hc];exact h.v.trap _
   ·rw [if_neg hc,if_neg hc]
    have:=h.put 0 (s.out++[x.2]) (fs++[⟨f.fn,f.pc+1,f.loc,rest⟩]) (fun y hy=>by
     rcases List.mem_append.1 hy with hy | hy
     ·exact L4a hy
     ·rw [List.mem_singleton] at hy;subst hy;exact L4b (h.loc.app h.rst))
    simp only[List.map_append,List.map_cons,List.map_nil,G4] at this;exact this
  ·have xb:(ren (sig sl) x).1≠1:=by rw [I3];exact hx1
   rw[if_pos hx1,if_pos xb];exact h.v.trap _
 ·obtain rfl:=O6 hn rfl
  have:=h.put 1 s.out [] (fun x hx=>by simp at hx);show C8 sl ⟨1,s.out,[],s.obs,s.dr⟩ ⟨1,t.out,[],t.obs,t.dr⟩;rw[h.v.out];exact this
end
section
variable {al:List Nat} {g:PgR} {j:Nat} {q r:Nat->Nat} {v:Val}
def N8 (al:List Nat) (sl:List Int):List Int:=sl.mapIdx fun i x=>if i∈al then x else -1
def H4 (al:List Nat) (i:Nat) (o:Ob):Ob:=if i∈al/\o.1=3/\(o.2.headD (0,0)).1=2/\(o.2.headD (0,0)).2.toNat∉al then (o.1,o.2.set 0 (0,0)) else o
def S6 (al:List Nat) (obs:List Ob):List Ob:=obs.mapIdx (H4 al)
def dP (sl:List Int) (s:McA):List Int × McA:=(N8 (A1 s) sl,{ s with obs:=S6 (A1 s) s.obs })
theorem Z0 (al:List Nat) (sl:List Int) (i:Nat):(N8 al sl)[i]?=(sl[i]?).map fun x=>if i∈al then x else -1:=by simp [N8,List.getElem?_mapIdx]
theorem V3 (al:List Nat) (obs:List Ob) (i:Nat):(S6 al obs)[i]?=(obs[i]?).map (H4 al i):=by simp [S6,List.getElem?_mapIdx]
theorem dS (al:List Nat) (obs:List Ob):(S6 al obs).length=obs.length:=by simp [S6]
theorem T8 (al:List Nat) (i:Nat) (o:Ob):(H4 al i o).1=o.1:=by unfold H4;split <;> rfl
theorem cJ {i:Nat} {o:Ob} (h:v∈(H4 al i o).2):v∈o.2\/v=(0,0):=by
 unfold H4 at h;split at h
 ·exact List.mem_or_eq_of_mem_set h
 ·exact L4a h
variable {sl:List Int} {s t:McA}
theorem U4 : I0 (N8 al sl) j↔j∈al/\I0 sl j:=by
 unfold I0;rw[Z0];constructor
 ·rintro ⟨x,hx,x0⟩
  cases e:sl[j]? with
  | none=>rw [e] at hx;cases hx
  | some y =>
   rw[e,Option.map_some] at hx;by_cases hj:j∈al
   ·rw [if_pos hj] at hx
    cases hx;exact⟨hj,_,rfl,x0⟩
   ·rw [if_neg hj] at hx
    cases hx;omega
 ·rintro ⟨hj,x,hx,x0⟩
  exact⟨x,by rw [hx,Option.map_some,if_pos hj],x0⟩
theorem bK (hj:j∈al):sig (N8 al sl) j=sig sl j:=by
 unfold sig;rw[List.getD_eq_getElem?_getD,List.getD_eq_getElem?_getD,Z0]
 cases sl[j]? with
 | none=>rfl
 | some y=>rw [Option.map_some,if_pos hj]
theorem cF (h:v.1=2->r v.2.toNat=q v.2.toNat):ren r v=ren q v:=by
 unfold ren;split
 ·rename_i h2
  rw[h h2]
 ·rfl
theorem xO {f:FrA} (h:∀v,v∈f.loc++f.stk->v.1=2->r v.2.toNat=q v.2.toNat):G4 r f=G4 q f:=by
 unfold G4;rw[List.map_congr_left fun v hv=>cF (h v (by simp [hv])),List.map_congr_left (l:=f.stk) fun v hv=>cF (h v (by simp [hv]))]
theorem C8.in_alive (h:C8 sl s t) {v:Val} (hv:VS sl v) (h2:v.1=2):(ren (sig sl) v).2.toNat∈A1 t↔v.2.toNat∈A1 s:=by
 rw[h.alive,iT h2];constructor
 ·intro hm
  obtain⟨i,hi,e⟩:=List.mem_map.1 hm;have:=h.inj2 (h.slotted _ hi) (hv h2).2 e;rwa [<- this]
 ·intro hm
  exact List.mem_map.2 ⟨_,hm,rfl⟩
theorem iW {l:List Val} (h:∃v,l=[v]) (h0:l.headD (0,0)=(0,0)):l.set 0 (0,0)=l:=by
 obtain⟨v,rfl⟩:=h;have:v=(0,0):=h0;rw[this];rfl
theorem jA (hi:D4 g t) {k:Nat} {o:Ob} (ho:t.obs[k]?=some o) (h3:o.1=3):(∃v,o.2=[v])/\((o.2.headD (0,0)).1≠2->o.2.headD (0,0)=(0,0)):=by
 rcases hi.obs o (L2a ho) with ⟨e,_⟩ | ⟨e,_⟩ | ⟨e,_⟩ | ⟨_,u,e,hv,h1⟩
 ·omega
 ·omega
 ·omega
 ·rw [e]
  refine⟨⟨u,rfl⟩,fun h2=>?_⟩;rcases hv with hv | hv | hv
  ·exact hv
  ·exact absurd hv h1
  ·exact absurd hv.1 h2
theorem C8.collect (h:C8 sl s t) (hi:D4 g t):C8 (dP sl s).1 (dP sl s).2 (I7 t):=by
 have hr:=h.reached;have xo:=h.alive;have xi:=h.slotted
 -- every reference of a frame is alive
 have xl:∀v,v∈C4 s.frs->v.1=2->v.2.toNat∈A1 s:=fun v hv h2=>hr.roots v hv h2
 have xk:(I7 t).obs.length=t.obs.length:=S4 _ _
 -- the fields of what is alive,behind it
 have xn:∀(j:Nat) (o:Ob),s.obs[j]?=some o->j∈A1 s->∀v,v∈(H4 (A1 s) j o).2->v.1=2->v.2.toNat∈A1 s/\0<=v.2:=fun j o ho hj v hv h2=>by
  have xg:v∈o.2:=by
   rcases cJ hv with hv | rfl
   ·exact hv
   ·simp at h2
  refine⟨?_,(h.orefs j o ho (xi j hj) v xg h2).1⟩;by_cases h3:o.1=3
  ·obtain ⟨p,hp,hq⟩:=h.get (xi j hj)
   rw[ho] at hp
   cases hp;obtain⟨⟨u,hu⟩,_⟩:=jA hi hq h3;obtain⟨x,hx⟩:∃x,o.2=[x]:=by
    cases e:o.2 with
    | nil=>rw [e] at hu;cases hu
    | cons x l =>
     rw[e] at hu
     cases l with
     | nil=>exact ⟨x,rfl⟩
     | cons y l=>simp at hu
   unfold H4 at hv;by_cases hc:j∈A1 s/\o.1=3/\(o.2.headD (0,0)).1=2/\(o.2.headD (0,0)).2.toNat∉A1 s
   ·rw [if_pos hc,hx] at hv
    have:v=(0,0):=by simpa using hv
    rw[this] at h2;simp at h2
   ·rw [if_neg hc,hx] at hv
    have e:v=x:=by simpa using hv
    subst e;rw[hx] at hc;exact Decidable.byContradiction fun hn=>hc ⟨hj,h3,h2,hn⟩
  ·exact hr.shut j hj o ho h3 v xg h2
 refine⟨h.st,h.out,h.dr,?_,?_,fun i x hx=>?_,fun i j x x0 hx hy=>?_,fun i o ho hs=>?_,fun k o ho hk=>?_,fun v hv h2=>?_,fun i o ho hs v hv h2=>?_,fun o ho v hv h2=>?_,fun o ho=>?_⟩
 ·show t.frs=s.frs.map (G4 (sig (N8 (A1 s) sl)))
  rw[h.frs];refine List.map_congr_left fun f hf=>xO fun v hv h2=>?_
  exact (bK (xl v (F9.2 ⟨f,hf,hv⟩) h2)).symm
 ·show (N8 (A1 s) sl).length=(S6 (A1 s) s.obs).length
  rw[dS,<- h.len];simp[N8]
 ·rw [xk]
  have xc:(N8 (A1 s) sl)[i]?=some x:=hx;rw[Z0] at xc
  cases e:sl[i]? with
  | none=>rw [e] at xc;cases xc
  | some y =>
   rw[e,Option.map_some] at xc
   cases xc;split
   ·exact h.bd i y e
   ·exact L4a rfl
 ·have xc:(N8 (A1 s) sl)[i]?=some x:=hx
  have xp:(N8 (A1 s) sl)[j]?=some x:=hy;have xm:∀k:Nat,(N8 (A1 s) sl)[k]?=some x->sl[k]?=some x:=fun k hk=>by
   rw[Z0] at hk
   cases e:sl[k]? with
   | none=>rw [e] at hk;cases hk
   | some y =>
    rw[e,Option.map_some] at hk;by_cases hj:k∈A1 s
    ·rw [if_pos hj] at hk;exact hk
    ·rw [if_neg hj] at hk;cases hk;omega
  exact h.inj i j x x0 (xm i xc) (xm j xp)
 ·have xa:(S6 (A1 s) s.obs)[i]?=some o:=ho
  obtain⟨xd,xh⟩:=U4.1 hs;rw[V3] at xa;obtain⟨p,hp,hq⟩:=h.get xh;rw[hp,Option.map_some] at xa
  cases xa;have xe:sig sl i∈A1 t:=by rw [xo];exact List.mem_map.2 ⟨i,xd,rfl⟩
  show (I7 t).obs[sig (N8 (A1 s) sl) i]?=_;rw[bK xd,sB hq xe,T8];congr 1
  have xf:(H4 (A1 s) i p).2.map (ren (sig (N8 (A1 s) sl)))=(H4 (A1 s) i p).2.map (ren (sig sl)):=List.map_congr_left fun v hv=>cF fun h2=>bK (xn i p hp xd v hv h2).1
  rw[show (dP sl s).1=N8 (A1 s) sl from rfl,xf];by_cases h3:p.1=3
  ·obtain ⟨w1,w2⟩:=jA hi hq h3
   have hh:=oH (r:=sig sl) p.2;have xq:VS sl (p.2.headD (0,0)):=by
    cases e:p.2 with
    | nil=>exact VS.plain (show (0:Int)≠2 by decide)
    | cons x l=>exact h.orefs i p hp xh x (by rw [e];simp)
   have xb:=tA hi (ren (sig sl) (p.2.headD (0,0)));unfold K7;show (if p.1=3/\eA (Z1 t.obs (A1 t)) ((p.2.map (ren (sig sl))).headD (0,0))=true then (p.1,(p.2.map (ren (sig sl))).set 0 (0,0)) else (p.1,p.2.map (ren (sig sl))))=_;rw[hh];unfold H4;by_cases h2:(p.2.headD (0,0)).1=2
   ·have xg:=h.in_alive xq h2
    by_cases ha:(p.2.headD (0,0)).2.toNat∈A1 s
    ·rw [if_neg (fun c=>(xb.1 c.2) ⟨by rw [I3];exact h2,xg.2 ha⟩),if_neg (fun c=>c.2.2.2 ha)]
    ·rw [if_pos ⟨h3,xb.2 fun c=>ha (xg.1 c.2)⟩,if_pos ⟨xd,h3,h2,ha⟩,List.map_set,Z7]
   ·rw [if_pos ⟨h3,xb.2 fun c=>h2 (by rw [<- I3 (sig sl)];exact c.1)⟩,if_neg (fun c=>h2 c.2.2.1)]
    congr 1
    refine iW w1 (w2 ?_);show ((p.2.map (ren (sig sl))).headD (0,0)).1≠2;rw[hh,I3];exact h2
  ·rw [bR (o:=(p.1,p.2.map (ren (sig sl)))) h3]
   unfold H4;rw[if_neg (fun c=>h3 c.2.1)]
 ·by_cases xe:k∈A1 t
  ·exfalso
   rw[xo] at xe;obtain⟨j,hj,e⟩:=List.mem_map.1 xe;obtain⟨x,hx,x0⟩:=xi j hj;refine hk j ?_;show (N8 (A1 s) sl)[j]?=_;rw[Z0,hx,Option.map_some,if_pos hj,<- e,bE hx];congr 1
   omega
  ·have xa:(R9 t.obs (A1 t))[k]?=some o:=ho
   rw[Z2] at xa
   cases e:t.obs[k]? with
   | none=>rw [e] at xa;cases xa
   | some p =>
    rw[e,Option.map_some,if_neg xe] at xa
    cases xa;exact bR (show (0:Int)≠3 by decide)
 ·exact ⟨(h.vals v hv h2).1,U4.2 ⟨xl v hv h2,(h.vals v hv h2).2⟩⟩
 ·have xa:(S6 (A1 s) s.obs)[i]?=some o:=ho
  obtain⟨xd,xh⟩:=U4.1 hs;rw[V3] at xa;obtain⟨p,hp,_⟩:=h.get xh;rw[hp,Option.map_some] at xa
  cases xa;obtain⟨q1,q2⟩:=xn i p hp xd v hv h2;exact⟨q2,U4.2 ⟨q1,xi _ q1⟩⟩
 ·show v.2.toNat < (S6 (A1 s) s.obs).length
  rw[dS];obtain⟨i,xj,e⟩:=List.mem_iff_getElem.1 ho;have xa:(S6 (A1 s) s.obs)[i]?=some o:=by rw [<- e];exact L1b xj
  rw[V3] at xa
  cases hp:s.obs[i]? with
  | none=>rw [hp] at xa;cases xa
  | some p =>
   rw[hp,Option.map_some] at xa
   cases xa;rcases cJ hv with hv | rfl
   ·exact h.within p (L2a hp) v hv h2
   ·simp at h2
 ·obtain ⟨i,xj,e⟩:=List.mem_iff_getElem.1 ho
  have xa:(S6 (A1 s) s.obs)[i]?=some o:=by rw [<- e];exact L1b xj
  rw[V3] at xa
  cases hp:s.obs[i]? with
  | none=>rw [hp] at xa;cases xa
  | some p =>
   rw[hp,Option.map_some] at xa
   cases xa;rw[T8];exact h.kinds p (L2a hp)
end
section
variable {sl:List Int} {x:Int}
def V4 (sl:List Int):Nat->Nat->Option Nat
 | 0,_=>none
 | m+1,n=>if (n:Int)∈sl then V4 sl m (n+1) else some n
def aM (cap:Nat) (sl:List Int) (dr:List Int):Option (Nat × List Int) :=
 match dr with
 | []=>(V4 sl cap 0).map fun j=>(j,[])
 | d::ds=>if ((d % (cap:Int)).toNat:Int)∈sl then (V4 sl cap 0).map fun j=>(j,ds) else some ((d % (cap:Int)).toNat,ds)
def U2 (cap:Nat) (sl:List Int) (s:McA):List Int × McA:=if V4 sl cap 0=none then dP sl s else (sl,s)
def bB (cap:Nat) (sl:List Int) (s:McA) (fs:List FrA) (f:FrA) (rest:List Val) (kind:Int) (fl:List Val):List Int × McA :=
 if cap<=(A1 s).length then (sl,C7 s 6)
 else match aM cap (U2 cap sl s).1 s.dr with
  | none=>(sl,s)
  | some j=>((U2 cap sl s).1++[(j.1:Int)],
   ⟨0,s.out,fs++[⟨f.fn,f.pc+1,f.loc,rest++[(2,(s.obs.length:Int))]⟩],(U2 cap sl s).2.obs++[(kind,fl)],j.2⟩)
variable {sl:List Int} {s t:McA} {fs:List FrA} {f:FrA} {rest args:List Val}
theorem C8.zero (h:C8 sl s t) {k:Nat} {o:Ob} (ho:t.obs[k]?=some o):o.1=0↔¬(k:Int)∈sl:=by
 constructor
 ·intro h0 hm
  obtain⟨i,hi,e⟩:=List.mem_iff_getElem.1 hm;have hx:sl[i]?=some (k:Int):=by rw [<- e];exact L1b hi
  obtain⟨p,hp,hq⟩:=h.get (i:=i) ⟨_,hx,by omega⟩;rw[bE hx,Int.toNat_natCast,ho] at hq
  cases hq;exact h.kinds p (L2a hp) h0
 ·intro hm
  rw[h.free k o ho fun i hi=>hm (L2a hi)]
theorem zA : ∀(l:List Ob) (n:Nat),(∀(k:Nat) (o:Ob),l[k]?=some o->(o.1=0↔¬((n+k:Nat):Int)∈sl))->freeA l n=V4 sl l.length n
 | [],_,_=>rfl
 | o::l,n,h=>by
  rw[freeA,List.length_cons,V4];have h0:=h 0 o rfl;rw[Nat.add_zero] at h0;have ih:=zA l (n+1) fun k p hp=>by
   have:=h (k+1) p (by simpa using hp);rwa [show n+(k+1)=n+1+k by omega] at this
  by_cases hz:o.1=0
  ·rw [if_pos hz,if_neg (h0.1 hz)]
  ·rw [if_neg hz,if_pos (Decidable.byContradiction fun hn=>hz (h0.2 hn)),ih]
theorem C8.freeA (h:C8 sl s t):freeA t.obs 0=V4 sl t.obs.length 0:=zA t.obs 0 fun k o ho=>by rw [Nat.zero_add];exact h.zero ho
theorem C8.pick (h:C8 sl s t) (hc:1<=t.obs.length) (dr:List Int):cD t.obs dr=aM t.obs.length sl dr:=by
 unfold cD aM
 cases dr with
 | nil=>simp only [h.freeA]
 | cons d ds =>
  have xa:(d % (t.obs.length:Int)).toNat < t.obs.length:=by
   have h1:=Int.emod_nonneg d (show (t.obs.length:Int)≠0 by omega);have h2:=Int.emod_lt_of_pos d (show (0:Int) < t.obs.length by omega);omega
  have ho:t.obs[(d % (t.obs.length:Int)).toNat]?=some t.obs[(d % (t.obs.length:Int)).toNat]:=L1b xa;have hz:=h.zero ho;simp only[ho,h.freeA];by_cases h0:(t.obs[(d % (t.obs.length:Int)).toNat]).1=0
  ·rw [if_pos h0,if_neg (hz.1 h0)]
  ·rw [if_neg h0,if_pos (Decidable.byContradiction fun hn=>h0 (hz.2 hn))]
theorem gB : ∀(m n j:Nat),V4 sl m n=some j->n<=j/\j < n+m/\¬(j:Int)∈sl
 | 0,_,_,h=>by cases h
 | m+1,n,j,h=>by
  rw[V4] at h;by_cases hm:(n:Int)∈sl
  ·rw [if_pos hm] at h
   obtain⟨q1,q2,q3⟩:=gB m (n+1) j h;exact⟨by omega,by omega,q3⟩
  ·rw [if_neg hm] at h
   cases h;exact⟨by omega,by omega,hm⟩
theorem yA {cap:Nat} (hc:1<=cap) {sl dr:List Int} {j:Nat × List Int} (h:aM cap sl dr=some j):j.1 < cap/\¬(j.1:Int)∈sl:=by
 unfold aM at h
 cases dr with
 | nil =>
  simp only at h
  cases e:V4 sl cap 0 with
  | none=>rw [e] at h;cases h
  | some k =>
   rw[e,Option.map_some] at h
   cases h;obtain⟨_,q2,q3⟩:=gB _ _ _ e;exact⟨by omega,q3⟩
 | cons d ds =>
  simp only at h;by_cases hm:((d % (cap:Int)).toNat:Int)∈sl
  ·rw [if_pos hm] at h
   cases e:V4 sl cap 0 with
   | none=>rw [e] at h;cases h
   | some k =>
    rw[e,Option.map_some] at h
    cases h;obtain⟨_,q2,q3⟩:=gB _ _ _ e;exact⟨by omega,q3⟩
  ·rw [if_neg hm] at h
   cases h;have h1:=Int.emod_nonneg d (show (cap:Int)≠0 by omega);have h2:=Int.emod_lt_of_pos d (show (0:Int) < cap by omega);exact⟨by show (d % (cap:Int)).toNat < cap;omega,hm⟩
theorem zR {k:List Int} {i:Nat} (hi:i < sl.length):sig (sl++k) i=sig sl i:=by
 unfold sig;rw[List.getD_eq_getElem?_getD,List.getD_eq_getElem?_getD,List.getElem?_append_left hi]
theorem bL (x0:0<=x) {i:Nat} : I0 (sl++[x]) i↔I0 sl i\/i=sl.length:=by
 constructor
 ·rintro ⟨y,hy,y0⟩
  have xa:=(L1a.1 hy).1;rw[List.length_append,List.length_singleton] at xa;by_cases e:i=sl.length
  ·exact L4b e
  ·rw [List.getElem?_append_left R4] at hy
   exact L4a ⟨y,hy,y0⟩
 ·rintro (⟨y,hy,y0⟩ | rfl)
  ·exact ⟨y,by rw [List.getElem?_append_left (L1a.1 hy).1];exact hy,y0⟩
  ·exact ⟨x,by simp,x0⟩
theorem VS.more (x0:0<=x) {v:Val} (h:VS sl v):VS (sl++[x]) v:=fun h2=>⟨(h h2).1,(bL x0).2 (L4a (h h2).2)⟩
theorem mN {v:Val} (h:VS sl v):ren (sig (sl++[x])) v=ren (sig sl) v:=cF fun h2=>zR (h h2).2.lt
theorem a2S {l:List Val} (h:VSs sl l):l.map (ren (sig (sl++[x])))=l.map (ren (sig sl)):=List.map_congr_left fun v hv=>mN (h v hv)
theorem C8.lay (h:C8 sl s t) {j:Nat} (hj:j < t.obs.length) (hn:¬(j:Int)∈sl) {kind:Int} (hk:kind≠0) {fl:List Val} (hfl:VSs sl fl) (st:Int) (out:List Int) (fr:List FrA) (dr:List Int)
  (hin:∀x,x∈fr->VSs sl (x.loc++x.stk)\/∃l,x.stk=l++[(2,(s.obs.length:Int))]/\VSs sl (x.loc++l)) :
  C8 (sl++[(j:Int)]) ⟨st,out,fr,s.obs++[(kind,fl)],dr⟩ ⟨st,out,fr.map (G4 (sig (sl++[(j:Int)]))),t.obs.set j (kind,fl.map (ren (sig sl))),dr⟩:=by
 have xa:(0:Int)<=(j:Int):=by omega
 have xc:sig (sl++[(j:Int)]) sl.length=j:=by
  have:(sl++[(j:Int)])[sl.length]?=some (j:Int):=by simp
  rw[bE this,Int.toNat_natCast]
 have xe:VS (sl++[(j:Int)]) (2,(s.obs.length:Int)):=fun _=>⟨by show (0:Int)<=(s.obs.length:Int);omega,(bL xa).2 (L4b (by show ((s.obs.length:Int)).toNat=_;rw [h.len];omega))⟩
 have xb:∀i,I0 sl i->sig sl i≠j:=fun i ⟨x,hx,x0⟩ e=>hn (by
  rw[bE hx] at e;have:x=(j:Int):=by omega
  rw[<- this];exact L2a hx)
 refine⟨rfl,rfl,rfl,rfl,?_,fun i x hx=>?_,fun a b x x0 hx hy=>?_,fun i o ho hs=>?_,fun k o ho hk2=>?_,fun v hv=>?_,fun i o ho hs v hv=>?_,fun o ho v hv h2=>?_,fun o ho=>?_⟩
 ·rw [List.length_append,List.length_append,h.len];rfl
 ·rw [List.length_set]
  have xd:=(L1a.1 hx).1;rw[List.length_append,List.length_singleton] at xd;by_cases e:i=sl.length
  ·subst e
   have:x=(j:Int):=by simpa using hx.symm
   right;omega
  ·rw [List.getElem?_append_left R4] at hx
   exact h.bd i x hx
 ·have xh:∀k:Nat,(sl++[(j:Int)])[k]?=some x->(k=sl.length/\x=(j:Int))\/sl[k]?=some x:=fun k hk3=>by
   have xd:=(L1a.1 hk3).1;rw[List.length_append,List.length_singleton] at xd;by_cases e:k=sl.length
   ·subst e
    exact L4a ⟨rfl,by simpa using hk3.symm⟩
   ·rw [List.getElem?_append_left R4] at hk3
    exact L4b hk3
  rcases xh a hx with ⟨ea,ex⟩ | ha <;> rcases xh b hy with ⟨eb,xj⟩ | hb
  ·omega
  ·exact absurd (L2a hb) (by rw [ex];exact hn)
  ·exact absurd (L2a ha) (by rw [xj];exact hn)
  ·exact h.inj a b x x0 ha hb
 ·rcases (bL xa).1 hs with his | rfl
  ·have xf:=his.lt
   rw[List.getElem?_append_left (by rw [<- h.len];exact xf)] at ho;show (t.obs.set j _)[sig (sl++[(j:Int)]) i]?=_;rw[zR xf,List.getElem?_set_ne fun e=>xb i his e.symm,h.obs i o ho his];congr 2
   exact (List.map_congr_left fun v hv=>(mN (h.orefs i o ho his v hv)).symm)
  ·rw [h.len] at ho
   have:o=(kind,fl):=by simpa using ho.symm
   subst this;show (t.obs.set j _)[sig (sl++[(j:Int)]) sl.length]?=_;rw[xc,List.getElem?_set_self hj];congr 2
   exact (a2S hfl).symm
 ·have xi:j≠k:=fun e=>hk2 sl.length (by rw [<- e];simp)
  have xg:(t.obs.set j (kind,fl.map (ren (sig sl))))[k]?=some o:=ho;rw[List.getElem?_set_ne xi] at xg;refine h.free k o xg fun i hi=>hk2 i ?_
  rw[List.getElem?_append_left (L1a.1 hi).1];exact hi
 ·obtain ⟨x,hx,hv⟩:=F9.1 hv
  rcases hin x hx with hx | ⟨l,e,hx⟩
  ·exact (hx v hv).more xa
  ·rw [e,<- List.append_assoc] at hv
   rcases List.mem_append.1 hv with hv | hv
   ·exact (hx v hv).more xa
   ·rw [List.mem_singleton] at hv
    subst hv;exact xe
 ·rcases (bL xa).1 hs with his | rfl
  ·rw [List.getElem?_append_left (by rw [<- h.len];exact his.lt)] at ho
   exact (h.orefs i o ho his v hv).more xa
  ·rw [h.len] at ho
   have:o=(kind,fl):=by simpa using ho.symm
   subst this;exact (hfl v hv).more xa
 ·show v.2.toNat < (s.obs++[(kind,fl)]).length
  rw[List.length_append];rcases List.mem_append.1 ho with ho | ho
  ·have:=h.within o ho v hv h2;omega
  ·rw [List.mem_singleton] at ho
   subst ho;have:=(hfl v hv h2).2.lt;rw[h.len] at this;omega
 ·rcases List.mem_append.1 ho with ho | ho
  ·exact h.kinds o ho
  ·rw [List.mem_singleton] at ho
   subst ho;exact hk
end
section
variable {g:PgR} {t:McA}
variable {sl:List Int} {s t:McA} {fs:List FrA} {f:FrA} {rest args:List Val}
theorem mX:∀(l:List Ob) (n:Nat),I8 l=l.length->freeA l n=none
 | [],_,_=>rfl
 | o::l,n,h=>by
  unfold I8 at h;rw[freeA];by_cases h0:o.1=0
  ·exfalso
   rw[List.filter_cons_of_neg (by simp [h0]),List.length_cons] at h;have:=List.length_filter_le (fun o:Ob=>o.1 != 0) l;omega
  ·rw [if_neg h0]
   refine mX l (n+1) ?_;rw[List.filter_cons_of_pos (by simp [h0]),List.length_cons,List.length_cons] at h;unfold I8;omega
theorem a1M (l:List Ob):I8 l=l.length↔freeA l 0=none :=
 ⟨mX l 0,fun h=>Decidable.byContradiction fun hn=>by
  obtain⟨j,hj⟩:=gA l 0 hn;rw[h] at hj
  cases hj⟩
theorem pD (hi:D4 g t) (hf:(A1 t).length=t.obs.length):I7 t=t:=by
 have xa:∀k,k < t.obs.length->k∈A1 t:=fun k hk=>by
  refine Decidable.byContradiction fun hn=>?_
  have xb:(k::A1 t).Nodup:=List.nodup_cons.2 ⟨hn,hi.alive.nodup⟩;have:=L1 xb (n:=t.obs.length) fun j hj=>by
   rcases List.mem_cons.1 hj with rfl | hj
   ·exact hk
   ·exact hi.alive.lt j hj
  rw[List.length_cons] at this;omega
 have e:R9 t.obs (A1 t)=t.obs:=by
  refine List.ext_getElem? fun k=>?_
  rw[Z2]
  cases ho:t.obs[k]? with
  | none=>rfl
  | some o =>
   have hk:=xa k (L1a.1 ho).1;rw[Option.map_some,if_pos hk];congr 1
   by_cases h3:o.1=3
   ·obtain ⟨w1,w2⟩:=jA hi ho h3
    unfold K7;split
    ·rename_i hc
     have hl:=(tA hi (o.2.headD (0,0))).1 hc.2;have h2:(o.2.headD (0,0)).1≠2:=fun h2=>hl ⟨h2,xa _ ((a3S hi ho h3).lt h2)⟩
     rw[iW w1 (w2 h2)]
    ·rfl
   ·exact bR h3
 unfold I7;rw[e]
theorem C8.room (h:C8 sl s t) (hi:D4 g t):C8 (U2 t.obs.length sl s).1 (U2 t.obs.length sl s).2 (G0 t):=by
 unfold G0 U2;have e:=a1M t.obs;rw[h.freeA] at e;by_cases hc:V4 sl t.obs.length 0=none
 ·rw [if_pos hc,if_pos (e.2 hc)]
  exact h.collect hi
 ·rw [if_neg hc,if_neg fun c=>hc (e.1 c)]
  exact h
theorem Vat.new (h:Vat sl s t fs f rest args) (hi:D4 g t) (kind:Int) (hk:kind≠0) (fl:List Val) (hfl:∀v,v∈fl->v.1≠2\/v∈args) :
  C8 (bB t.obs.length sl s fs f rest kind fl).1 (bB t.obs.length sl s fs f rest kind fl).2 (U1 t (fs.map (G4 (sig sl))) (G4 (sig sl) f) (rest.map (ren (sig sl))) kind (fl.map (ren (sig sl)))):=by
 have xs:(A1 t).length=(A1 s).length:=by rw [h.v.alive,List.length_map]
 have xr:(A1 s).length<=t.obs.length:=h.v.len_le h.v.reached.nodup h.v.slotted;have xj:=sP hi;have xm:=hi.cap.1;unfold bB U1;by_cases hfull:t.obs.length<=(A1 s).length
 ·rw [if_pos hfull,if_pos (xj.2 R4)]
  have e:G0 t=t:=by
   unfold G0;split
   ·exact pD hi R4
   ·rfl
  rw[e];exact h.v.trap 6
 ·rw [if_neg hfull,if_neg fun c=>hfull (by have:=xj.1 c;omega)]
  have hV:=h.v.room hi;have xg:(U2 t.obs.length sl s).2.frs=s.frs:=by unfold U2;split <;> rfl
  have xd:(U2 t.obs.length sl s).2.obs.length=s.obs.length:=by
   unfold U2;split
   ·exact dS _ _
   ·rfl
  have xi:∀v,v∈C4 s.frs->ren (sig (U2 t.obs.length sl s).1) v=ren (sig sl) v:=fun v hv=>by
   unfold U2;split
   ·exact cF fun h2=>bK (h.v.reached.roots v hv h2)
   ·rfl
  generalize (U2 t.obs.length sl s)=c at hV xg xd xi ⊢;have xp:(G0 t).obs.length=t.obs.length:=by
   unfold G0;split
   ·exact S4 _ _
   ·rfl
  have xa:=hV.pick R4 s.dr;rw[xp] at xa;have xo:I8 (G0 t).obs≠(G0 t).obs.length:=fun c=>hfull (by have:=xj.1 c;omega)
  obtain⟨j,hj⟩:=cM (dr:=s.dr) (show 0 < (G0 t).obs.length by omega) xo;rw[h.v.dr,hj];rw[xa] at hj;rw[hj];simp only;obtain⟨xt,xn⟩:=yA xm hj
  -- the frames' values
  have xf:∀v,v∈C4 s.frs->VS c.1 v:=fun v hv=>hV.vals v (by rw [xg];exact hv)
  have xe:∀{x:FrA},x∈s.frs->∀v,v∈x.loc++x.stk->v∈C4 s.frs:=fun {x} hx v hv=>F9.2 ⟨x,hx,hv⟩
  have hf:f∈s.frs:=by rw [h.frs];simp
  have xh:∀v,v∈f.loc->v∈C4 s.frs:=fun v hv=>xe hf v (by simp [hv])
  have xb:∀v,v∈rest->v∈C4 s.frs:=fun v hv=>xe hf v (by rw [h.stk];simp [hv])
  have xc:∀v,v∈args->v∈C4 s.frs:=fun v hv=>xe hf v (by rw [h.stk];simp [hv])
  have xk:VSs c.1 fl:=fun v hv=>by
   rcases hfl v hv with h2 | hv
   ·exact VS.plain h2
   ·exact xf v (xc v hv)
  have:=hV.lay (j:=j.1) R4 xn hk xk 0 s.out (fs++[⟨f.fn,f.pc+1,f.loc,rest++[(2,(s.obs.length:Int))]⟩]) j.2 (fun x hx=>by
   rcases List.mem_append.1 hx with hx | hx
   ·exact L4a fun v hv=>xf v (xe (by rw [h.frs];simp [hx]) v hv)
   ·rw [List.mem_singleton] at hx
    subst hx;refine L4b ⟨rest,by rw [xd],fun v hv=>?_⟩;rcases List.mem_append.1 hv with hv | hv
    ·exact xf v (xh v hv)
    ·exact xf v (xb v hv))
  have hm:∀l:List Val,(∀v,v∈l->v∈C4 s.frs)->l.map (ren (sig (c.1++[(j.1:Int)])))=l.map (ren (sig sl)):=fun l hl=>List.map_congr_left fun v hv=>by rw [mN (xf v (hl v hv)),xi v (hl v hv)]
  have e1:fs.map (G4 (sig (c.1++[(j.1:Int)])))=fs.map (G4 (sig sl)):=List.map_congr_left fun x hx=>by
   have xl:x∈s.frs:=by rw [h.frs];simp [hx]
   unfold G4;rw[hm x.loc fun v hv=>xe xl v (by simp [hv]),hm x.stk fun v hv=>xe xl v (by simp [hv])]
  have e2:ren (sig (c.1++[(j.1:Int)])) (2,(s.obs.length:Int))=(2,(j.1:Int)):=by
   unfold ren;rw[if_pos rfl];have xq:c.1.length=s.obs.length:=by rw [hV.len,xd]
   have:(c.1++[(j.1:Int)])[s.obs.length]?=some (j.1:Int):=by rw [<- xq];simp
   show ((2:Int),((sig (c.1++[(j.1:Int)]) ((s.obs.length:Int)).toNat:Nat):Int))=_;rw[Int.toNat_natCast,bE this,Int.toNat_natCast]
  have e3:fl.map (ren (sig c.1))=fl.map (ren (sig sl)):=List.map_congr_left fun v hv=>by
   rcases hfl v hv with h2 | hv
   ·rw [K4 h2,K4 h2]
   ·exact xi v (xc v hv)
  rw[List.map_append,List.map_cons,List.map_nil,e1,e3] at this;have e4:G4 (sig (c.1++[(j.1:Int)])) ⟨f.fn,f.pc+1,f.loc,rest++[(2,(s.obs.length:Int))]⟩=⟨f.fn,f.pc+1,f.loc.map (ren (sig sl)),rest.map (ren (sig sl))++[(2,(j.1:Int))]⟩:=by
   unfold G4;simp only;rw[List.map_append,List.map_cons,List.map_nil,hm f.loc xh,hm rest xb,e2]
  rw[e4] at this;rw[h.v.out];exact this
def doD (g:PgR) (cap k:Nat) (a:Int) (sl:List Int) (s:McA) (fs:List FrA) (f:FrA) (rest args:List Val):List Int × McA :=
 match k,args with
 | 16,[]=>bB cap sl s fs f rest 1 (List.replicate a.toNat (0,0))
 | 17,[x]=>if x.1≠1 then (sl,C7 s 2) else if 0<=x.2/\x.2<=12 then bB cap sl s fs f rest 2 (List.replicate x.2.toNat (0,0)) else (sl,C7 s 4)
 | 18,[x]=>if x.1=2 then bB cap sl s fs f rest 3 [x] else (sl,C7 s 2)
 | k,l=>(sl,doA g k a s fs f rest l)
def mV (g:PgR) (cap:Nat) (m:List Int × McA):List Int × McA :=
 match m.2.frs.getLast? with
 | none=>m
 | some f =>
  doD g cap ((g.f f.fn).op f.pc).toNat ((g.f f.fn).ar f.pc) m.1 m.2 m.2.frs.dropLast f
   (f.stk.take (f.stk.length - (O1 ((g.f f.fn).op f.pc) (g.f ((g.f f.fn).ar f.pc).toNat).p).toNat))
   (f.stk.drop (f.stk.length - (O1 ((g.f f.fn).op f.pc) (g.f ((g.f f.fn).ar f.pc).toNat).p).toNat))
theorem zJ (n:Nat) (args:List Val):∀v,v∈List.replicate n ((0,0):Val)->v.1≠2\/v∈args:=fun v hv=>L4a (wO n v hv)
theorem a2u (g:PgR) (h:Vat sl s t fs f rest args) (hi:D4 g t) {k:Nat} {a:Int} (o:fC g f k a rest args) (hk:k < 28) :
  C8 (doD g t.obs.length k a sl s fs f rest args).1 (doD g t.obs.length k a sl s fs f rest args).2 (doA g k a t (fs.map (G4 (sig sl))) (G4 (sig sl) f) (rest.map (ren (sig sl))) (args.map (ren (sig sl)))):=by
 have hn:=o.pops;by_cases h16:k=16
 ·subst h16
  obtain rfl:=O6 hn rfl;have:=h.new hi 1 R3 (List.replicate a.toNat (0,0)) (zJ _ _);rw[List.map_replicate,Z7] at this;exact this
 ·by_cases h17:k=17
  ·subst h17
   obtain⟨x,rfl⟩:=F4 hn rfl;show C8 (if x.1≠1 then (sl,C7 s 2) else if 0<=x.2/\x.2<=12 then bB t.obs.length sl s fs f rest 2 (List.replicate x.2.toNat (0,0)) else (sl,C7 s 4)).1 (if x.1≠1 then (sl,C7 s 2) else if 0<=x.2/\x.2<=12 then bB t.obs.length sl s fs f rest 2 (List.replicate x.2.toNat (0,0)) else (sl,C7 s 4)).2 (if (ren (sig sl) x).1≠1 then C7 t 2 else if 0<=(ren (sig sl) x).2/\(ren (sig sl) x).2<=12 then U1 t (fs.map (G4 (sig sl))) (G4 (sig sl) f) (rest.map (ren (sig sl))) 2 (List.replicate (ren (sig sl) x).2.toNat (0,0)) else C7 t 4)
   by_cases hx1:x.1=1
   ·have ex:ren (sig sl) x=x:=K4 R4
    rw[ex,if_neg (not_not_intro hx1),if_neg (not_not_intro hx1)];by_cases hc:0<=x.2/\x.2<=12
    ·rw [if_pos hc,if_pos hc]
     have:=h.new hi 2 R3 (List.replicate x.2.toNat (0,0)) (zJ _ _);rw[List.map_replicate,Z7] at this;exact this
    ·rw [if_neg hc,if_neg hc];exact h.v.trap _
   ·have xa:(ren (sig sl) x).1≠1:=by rw [I3];exact hx1
    rw[if_pos hx1,if_pos xa];exact h.v.trap _
  ·by_cases h18:k=18
   ·subst h18
    obtain⟨x,rfl⟩:=F4 hn rfl;show C8 (if x.1=2 then bB t.obs.length sl s fs f rest 3 [x] else (sl,C7 s 2)).1 (if x.1=2 then bB t.obs.length sl s fs f rest 3 [x] else (sl,C7 s 2)).2 (if (ren (sig sl) x).1=2 then U1 t (fs.map (G4 (sig sl))) (G4 (sig sl) f) (rest.map (ren (sig sl))) 3 [ren (sig sl) x] else C7 t 2);rw[I3];by_cases h1:x.1=2
    ·rw [if_pos h1,if_pos h1]
     exact h.new hi 3 R3 [x] fun v hv=>L4b hv
    ·rw [if_neg h1,if_neg h1];exact h.v.trap _
   ·have e:doD g t.obs.length k a sl s fs f rest args=(sl,doA g k a s fs f rest args):=by
     unfold doD;split
     ·exact absurd rfl h16
     ·exact absurd rfl h17
     ·exact absurd rfl h18
     ·rfl
    rw[e];exact a4D g h o hk h16 h17 h18
theorem a1I (hp:S5 g) (h:C8 sl s t) (hi:D4 g t) (h0:s.st=0):C8 (mV g t.obs.length (sl,s)).1 (mV g t.obs.length (sl,s)).2 (U3 g t):=by
 have xi:t.frs≠[]:=hi.run (by rw [h.st];exact h0);have xh:s.frs≠[]:=fun e=>xi (by rw [h.frs,e];rfl)
 obtain⟨fs,f,hf⟩:∃fs f,s.frs=fs++[f]:=⟨_,_,(List.dropLast_concat_getLast xh).symm⟩
 have xg:t.frs=fs.map (G4 (sig sl))++[G4 (sig sl) f]:=by rw [h.frs,hf,List.map_append];rfl
 obtain⟨k,a,xc,args',hk,o,e⟩:=hi.opAt hp xg;have xe:(g.f f.fn).op f.pc=(k:Int):=o.op;have xf:(g.f f.fn).ar f.pc=a:=o.ar;have xd:f.stk.map (ren (sig sl))=xc++args':=o.stk;obtain⟨xa,args,hs,rfl,rfl⟩:=List.map_eq_append_iff.1 xd;have xb:O1 k (g.f a.toNat).p=args.length:=by have:=o.pops;rwa [List.length_map] at this
 have o2:fC g f k a xa args:=⟨xe,xf,hs,xb⟩;have hS:mV g t.obs.length (sl,s)=doD g t.obs.length k a sl s fs f xa args:=by
  have e1:s.frs.getLast?=some f:=by rw [hf];simp
  have e2:s.frs.dropLast=fs:=by rw [hf];simp
  unfold mV;simp only;rw[e1,e2];simp only;rw[xe,xf,xb,hs];have e3:(xa++args).length - ((args.length:Nat):Int).toNat=xa.length:=by simp
  rw[e3,List.take_left,List.drop_left];rfl
 rw[e,hS];exact a2u g ⟨h,hf,hs⟩ hi o2 hk
theorem wQ {k:Nat} {a:Int} {fs:List FrA} {f:FrA} {rest args:List Val} : (doA g k a t fs f rest args).obs.length=t.obs.length:=by
 have hr:(G0 t).obs.length=t.obs.length:=by
  unfold G0;split
  ·exact S4 _ _
  ·rfl
 have xa:∀kind fl,(U1 t fs f rest kind fl).obs.length=t.obs.length:=fun kind fl=>by
  unfold U1;split
  ·exact hr
  ·split
   ·rfl
   ·show ((G0 t).obs.set _ _).length=_
    rw[List.length_set,hr]
 have xb:∀v kind ix y,(setE t fs f rest v kind ix y).obs.length=t.obs.length:=fun v kind ix y=>by
  unfold setE;split
  ·exact List.length_set
  ·rfl
 unfold doA;split <;> first | rfl | exact xa _ _ | exact xb _ _ _ _ | skip
 all_goals first
  | (unfold F6;split <;> rfl)
  | (unfold cA;split <;> rfl)
  | (unfold aB;split <;> rfl)
  | (unfold D2;split <;> rfl)
  | (split <;> first | rfl | exact xa _ _ | (split <;> first | rfl | exact xa _ _))
theorem qC : (U3 g t).obs.length=t.obs.length:=by
 unfold U3;split
 ·rfl
 ·exact wQ
end
section
variable {sl:List Int} {s t:McA}
theorem dQ:∀(l:List Int),(l.filter fun x=>decide (0<=x)).length=((List.range l.length).filter fun j=>((l[j]?).map fun x=>decide (0<=x)).getD false).length
 | []=>rfl
 | x::l=>by
  have ih:=dQ l;rw[List.length_cons,List.range_succ_eq_map,List.filter_cons,List.filter_cons,List.filter_map,List.getElem?_cons_zero];have e:((fun j=>(((x::l)[j]?).map fun x=>decide (0<=x)).getD false)∘Nat.succ)=fun j=>((l[j]?).map fun x=>decide (0<=x)).getD false:=by funext j;simp
  rw[e];by_cases h:0<=x <;> simp [h,ih]
theorem kA {j:Nat} : ((sl[j]?).map fun x=>decide (0<=x)).getD false=true↔I0 sl j:=by
 unfold I0
 cases sl[j]? with
 | none=>simp
 | some x=>simp
theorem C8.taken (h:C8 sl s t):I8 t.obs=(sl.filter fun x=>decide (0<=x)).length:=by
 rw[dQ,cY];have hI:∀j,j∈((List.range sl.length).filter fun j=>((sl[j]?).map fun x=>decide (0<=x)).getD false)↔I0 sl j:=fun j=>by
  rw[List.mem_filter,List.mem_range,kA];exact⟨fun c=>c.2,fun c=>⟨c.lt,c⟩⟩
 have xa:((List.range sl.length).filter fun j=>((sl[j]?).map fun x=>decide (0<=x)).getD false).Nodup:=List.nodup_range.filter _;generalize ((List.range sl.length).filter fun j=>((sl[j]?).map fun x=>decide (0<=x)).getD false)=I at hI xa ⊢;rw[show I.length=(I.map (sig sl)).length from (List.length_map _).symm];have xb:(I.map (sig sl)).Nodup:=by
  rw[List.nodup_iff_pairwise_ne] at xa ⊢;rw[List.pairwise_map];refine List.Pairwise.imp_of_mem ?_ xa;intro a b ha hb hne e;exact hne (h.inj2 ((hI a).1 ha) ((hI b).1 hb) e)
 refine gF (List.nodup_range.filter _) xb fun k=>?_
 rw[List.mem_filter,List.mem_range,List.mem_map];constructor
 ·rintro ⟨hk,hz⟩
  have ho:t.obs[k]?=some t.obs[k]:=L1b hk;rw[ho] at hz;have xd:t.obs[k].1≠0:=by simpa using hz
  have hm:(k:Int)∈sl:=Decidable.byContradiction fun hn=>xd ((h.zero ho).2 hn)
  obtain⟨i,hi,e⟩:=List.mem_iff_getElem.1 hm;have hx:sl[i]?=some (k:Int):=by rw [<- e];exact L1b hi
  exact⟨i,(hI i).2 ⟨_,hx,by omega⟩,by rw [bE hx,Int.toNat_natCast]⟩
 ·rintro ⟨i,hi,rfl⟩
  have xc:=(hI i).1 hi;obtain⟨p,hp,hq⟩:=h.get xc;refine⟨(L1a.1 hq).1,?_⟩;rw[hq];simp[h.kinds p (L2a hp)]
def atT:List Int->Nat->Nat->Option Nat
 | [],_,_=>none
 | x::l,n,k=>if x=(k:Int) then some n else atT l (n+1) k
theorem gX:∀(l:List Int) (n k i:Nat),atT l n k=some i->n<=i/\l[i - n]?=some (k:Int)
 | [],_,_,_,h=>by cases h
 | x::l,n,k,i,h=>by
  rw[atT] at h;by_cases e:x=(k:Int)
  ·rw [if_pos e] at h
   cases h;exact⟨L1c _,by rw [Nat.sub_self,e];rfl⟩
  ·rw [if_neg e] at h
   obtain⟨q1,q2⟩:=gX l (n+1) k i h;refine⟨by omega,?_⟩;rw[show i - n=(i - (n+1))+1 by omega,List.getElem?_cons_succ];exact q2
theorem rQ:∀(l:List Int) (n k:Nat),atT l n k=none->¬(k:Int)∈l
 | [],_,_,_=>by simp
 | x::l,n,k,h=>by
  rw[atT] at h;by_cases e:x=(k:Int)
  ·rw [if_pos e] at h;cases h
  ·rw [if_neg e] at h
   have:=rQ l (n+1) k h;intro hm;rcases List.mem_cons.1 hm with hm | hm
   ·exact e hm.symm
   ·exact this hm
def a2E (cap:Nat) (sl:List Int) (s:McA):List Ob:=(List.range cap).map fun k=>match atT sl 0 k with
 | none=>(0,[])
 | some i=>((s.obs.getD i (0,[])).1,(s.obs.getD i (0,[])).2.map (ren (sig sl)))
theorem C8.heap (h:C8 sl s t):a2E t.obs.length sl s=t.obs:=by
 refine List.ext_getElem? fun k=>?_
 unfold a2E;rw[List.getElem?_map];by_cases hk:k < t.obs.length
 ·rw [List.getElem?_range hk,Option.map_some]
  have ho:t.obs[k]?=some t.obs[k]:=L1b hk
  cases e:atT sl 0 k with
  | none =>
   have hn:=rQ _ _ _ e;rw[ho,h.free k _ ho fun i hi=>hn (L2a hi)]
  | some i =>
   obtain⟨_,hx⟩:=gX _ _ _ _ e;rw[Nat.sub_zero] at hx;obtain⟨p,hp,hq⟩:=h.get (i:=i) ⟨_,hx,by omega⟩;rw[bE hx,Int.toNat_natCast] at hq;rw[hq];simp only;rw[List.getD_eq_getElem?_getD,hp];rfl
 ·rw [List.getElem?_eq_none_iff.2 (by rw [List.length_range];omega),List.getElem?_eq_none_iff.2 R4]
  rfl
def gC (sl:List Int) (al:List Nat):Nat:=((List.range sl.length).filter fun i=>decide (i∉al) && ((sl[i]?).map fun x=>decide (0<=x)).getD false).length
theorem C8.freed (h:C8 sl s t):gC sl (A1 s)+(A1 t).length=I8 t.obs:=by
 rw[h.taken,dQ,h.alive,List.length_map];unfold gC;rw[<- List.length_append];refine gF ?_ (List.nodup_range.filter _) fun j=>?_
 ·rw [List.nodup_append]
  refine⟨List.nodup_range.filter _,h.reached.nodup,fun a ha b hb e=>?_⟩;subst e;have:=(List.mem_filter.1 ha).2;rw[Bool.and_eq_true,decide_eq_true_eq] at this;exact this.1 hb
 ·rw [List.mem_append,List.mem_filter,List.mem_filter,List.mem_range,Bool.and_eq_true,decide_eq_true_eq,kA]
  constructor
  ·rintro (⟨q1,_,q3⟩ | hj)
   ·exact ⟨q1,q3⟩
   ·have:=h.slotted j hj
    exact⟨this.lt,this⟩
  ·rintro ⟨q1,q2⟩
   by_cases hj:j∈A1 s
   ·exact L4b hj
   ·exact L4a ⟨q1,hj,q2⟩
theorem C8.begin (n l cap:Nat):C8 [] ⟨0,[],[⟨n,0,List.replicate l (0,0),[]⟩],[],[]⟩ ⟨0,[],[⟨n,0,List.replicate l (0,0),[]⟩],List.replicate cap (0,[]),[]⟩ :=
 ⟨rfl,rfl,rfl,by simp [G4,Z7],rfl,fun i x hx=>by simp at hx,fun i j x _ hx=>by simp at hx,fun i o ho=>by simp at ho,fun k o ho _=>by
  have:o∈List.replicate cap ((0,[]):Ob):=L2a ho;exact (List.mem_replicate.1 this).2,fun v hv h2=>by
  obtain⟨f,hf,hv⟩:=F9.1 hv;rw[List.mem_singleton] at hf;subst hf;have:v∈List.replicate l ((0,0):Val):=by simpa using hv
  rw[(List.mem_replicate.1 this).2] at h2;simp at h2,fun i o ho=>by simp at ho,fun o ho=>by simp at ho,fun o ho=>by simp at ho⟩
theorem C8.draw (h:C8 sl s t) (d:List Int):C8 sl { s with dr:=s.dr++d } { t with dr:=t.dr++d } :=
 ⟨h.st,h.out,by show t.dr++d=s.dr++d;rw [h.dr],h.frs,h.len,h.bd,h.inj,h.obs,h.free,h.vals,h.orefs,h.within,h.kinds⟩
end
end Go.Proofs.YtbkmgoffiigdbaaGreatDoor
