import Derived.Test.YtbkmgoffiigdbabGreatDoorVO
import Derived.Lib.AppendZeros
namespace Go.Proofs.YtbkmgoffiigdbabGreatDoor
open Go.RowKit Go.Sort
set_option maxHeartbeats 4000000
set_option maxRecDepth 100000
abbrev Ob:=Int × List Val
def D5 (l:List FrA):List Val:=l.flatMap fun f=>f.loc++f.stk
def G2:List Nat→List Val→List Nat
 | met,[]=>met
 | met,v::l=>G2 (if v.1=2∧v.2.toNat∉met then met++[v.2.toNat] else met) l
def K6 (obs:List Ob):Nat→Nat→List Nat→List Nat
 | 0,_,met=>met
 | n+1,i,met=>match met[i]? with
  | none=>met
  | some j=>match obs[j]? with
   | none=>met
   | some o=>K6 obs n (i+1) (if o.1=3 then met else G2 met o.2)
def E3 (obs:List Ob) (l:List Val):List Nat:=K6 obs obs.length 0 (G2 [] l)
def A0 (s:McA):List Nat:=E3 s.obs (D5 s.frs)
theorem wX (met:List Nat) (l k:List Val):G2 met (l++k)=G2 (G2 met l) k:=by
 induction l generalizing met with
 | nil=>rfl
 | cons v l ih=>simp only [List.cons_append,G2];exact ih _
theorem Y6 (l:List Val):∀(met:List Nat) (j:Nat),j∈G2 met l↔j∈met∨∃v,v∈l∧v.1=2∧v.2.toNat=j:=by
 induction l with
 | nil=>intro met j;simp [G2]
 | cons v l ih =>
  intro met j;rw[G2,ih];by_cases h:v.1=2∧v.2.toNat∉met
  ·rw [if_pos h,List.mem_append,List.mem_singleton]
   constructor
   ·rintro ((h1 | h1) | ⟨u,h1,h2⟩)
    ·exact Or.inl h1
    ·exact Or.inr ⟨v,by simp,h.1,h1.symm⟩
    ·exact Or.inr ⟨u,by simp [h1],h2⟩
   ·rintro (h1 | ⟨u,h1,h2,h3⟩)
    ·exact Or.inl (Or.inl h1)
    ·rcases List.mem_cons.1 h1 with rfl | h1
     ·exact Or.inl (Or.inr h3.symm)
     ·exact Or.inr ⟨u,h1,h2,h3⟩
  ·rw [if_neg h]
   constructor
   ·rintro (h1 | ⟨u,h1,h2⟩)
    ·exact Or.inl h1
    ·exact Or.inr ⟨u,by simp [h1],h2⟩
   ·rintro (h1 | ⟨u,h1,h2,h3⟩)
    ·exact Or.inl h1
    ·rcases List.mem_cons.1 h1 with rfl | h1
     ·refine Or.inl ?_
      rw[← h3];exact Decidable.byContradiction fun hc=>h ⟨h2,hc⟩
     ·exact Or.inr ⟨u,h1,h2,h3⟩
theorem wY (l:List Val):∀met:List Nat,met <+: G2 met l:=by
 induction l with
 | nil=>intro met;exact List.prefix_refl _
 | cons v l ih =>
  intro met;rw[G2];split
  ·exact (List.prefix_append _ _).trans (ih _)
  ·exact ih _
theorem U0 (l:List Val):∀met:List Nat,met.Nodup→(G2 met l).Nodup:=by
 induction l with
 | nil=>intro met h;exact h
 | cons v l ih =>
  intro met h;rw[G2];split
  ·rename_i hv
   refine ih _ ?_;rw[List.nodup_append];refine⟨h,by simp,fun a ha b hb=>?_⟩;rw[List.mem_singleton] at hb;rintro rfl;exact hv.2 (hb▸ha)
  ·exact ih _ h
theorem cE {n:Nat} {l:List Val} {met:List Nat} (hm:∀j,j∈met→j < n) (hl:∀v,v∈l→v.1=2→v.2.toNat < n):∀j,j∈G2 met l→j < n:=by
 intro j hj;rcases (Y6 l met j).1 hj with h | ⟨v,h1,h2,rfl⟩
 ·exact hm j h
 ·exact hl v h1 h2
theorem K5:∀{n:Nat} {l:List Nat},l.Nodup→(∀j,j∈l→j < n)→l.length≤n
 | 0,l,_,hl=>by
  cases l with
  | nil=>simp
  | cons a l=>have:=hl a Q9;omega
 | n+1,l,h,hl=>by
  by_cases hn:n∈l
  ·have:=K5 (n:=n) (h.erase n) fun j hj=>by
    have h1:=hl j (List.mem_of_mem_erase hj);have h2:j≠n:=fun e=>by subst e;exact h.not_mem_erase hj
    omega
   rw[List.length_erase_of_mem hn] at this;omega
  ·have:=K5 (n:=n) h fun j hj=>by
    have h1:=hl j hj;have h2:j≠n:=fun e=>hn (e▸hj)
    omega
   omega
def kD (obs:List Ob):Prop:=∀o,o∈obs→∀v,v∈o.2→v.1=2→v.2.toNat < obs.length
def mM (obs:List Ob) (met:List Nat) (j:Nat):Prop:=∀o,obs[j]?=some o→o.1≠3→∀v,v∈o.2→v.1=2→v.2.toNat∈met
theorem mM.mono {obs:List Ob} {met met':List Nat} {j:Nat} (h:mM obs met j) (hs:∀k,k∈met→k∈met'):mM obs met' j:=fun o ho h3 v hv h2=>hs _ (h o ho h3 v hv h2)
structure kC (obs:List Ob) (i:Nat) (met:List Nat):Prop where
 nodup:met.Nodup
 lt:∀j,j∈met→j < obs.length
 shut:∀k j,k < i→met[k]?=some j→mM obs met j
theorem kC.next {obs:List Ob} (hw:kD obs) {i j:Nat} {met:List Nat} {o:Ob} (h:kC obs i met) (hi:met[i]?=some j) (ho:obs[j]?=some o):kC obs (i+1) (if o.1=3 then met else G2 met o.2):=by
 have ho':o∈obs:=List.mem_of_getElem? ho;by_cases h3:o.1=3
 ·rw [if_pos h3]
  refine⟨h.nodup,h.lt,fun k j' hk hj'=>?_⟩;by_cases e:k=i
  ·subst e
   rw[hi] at hj'
   cases hj';intro o' ho' hne;rw[ho] at ho'
   cases ho';exact absurd h3 hne
  ·exact h.shut k j' Q8 hj'
 ·rw [if_neg h3]
  have hsub:∀k,k∈met→k∈G2 met o.2:=fun k hk=>(Y6 _ _ _).2 (Or.inl hk)
  refine⟨U0 _ _ h.nodup,cE h.lt (hw o ho'),fun k j' hk hj'=>?_⟩;have hki:k < met.length:=by have:=(List.getElem?_eq_some_iff.1 hi).1;omega
  have hj'':met[k]?=some j':=by
   obtain⟨t,ht⟩:=wY o.2 met;rw[← ht,List.getElem?_append_left hki] at hj';exact hj'
  by_cases e:k=i
  ·subst e
   rw[hi] at hj''
   cases hj'';intro o' ho' _ v hv h2;rw[ho] at ho'
   cases ho';exact (Y6 _ _ _).2 (Or.inr ⟨v,hv,h2,rfl⟩)
  ·exact (h.shut k j' Q8 hj'').mono hsub
theorem mF {obs:List Ob} (hw:kD obs):∀(n i:Nat) (met:List Nat),obs.length≤n+i→kC obs i met→∃i',kC obs i' (K6 obs n i met)∧(K6 obs n i met).length≤i'∧∀j,j∈met→j∈K6 obs n i met
 | 0,i,met,hn,h=>⟨i,h,by have:=K5 h.nodup h.lt;simp only [K6];omega,fun _ hj=>hj⟩
 | n+1,i,met,hn,h=>by
  rw[K6]
  cases hi:met[i]? with
  | none=>exact ⟨i,h,by have:=List.getElem?_eq_none_iff.1 hi;exact this,fun _ hj=>hj⟩
  | some j =>
   obtain⟨o,ho⟩:∃o,obs[j]?=some o:=⟨_,List.getElem?_eq_getElem (h.lt j (List.mem_of_getElem? hi))⟩
   simp only[ho];obtain⟨i',h1,h2,h3⟩:=mF hw n (i+1) _ Q8 (h.next hw hi ho);refine⟨i',h1,h2,fun k hk=>h3 k ?_⟩;split
   ·exact hk
   ·exact (Y6 _ _ _).2 (Or.inl hk)
structure Z6 (obs:List Ob) (l:List Val) (met:List Nat):Prop where
 nodup:met.Nodup
 lt:∀j,j∈met→j < obs.length
 shut:∀j,j∈met→mM obs met j
 roots:∀v,v∈l→v.1=2→v.2.toNat∈met
theorem dX {obs:List Ob} (hw:kD obs) {l:List Val} (hl:∀v,v∈l→v.1=2→v.2.toNat < obs.length):Z6 obs l (E3 obs l):=by
 have h0:kC obs 0 (G2 [] l):=⟨U0 _ _ List.nodup_nil,cE Q9 hl,fun k j hk _=>by omega⟩;obtain⟨i',h1,h2,h3⟩:=mF hw obs.length 0 _ Q8 h0;refine⟨h1.nodup,h1.lt,fun j hj=>?_,fun v hv h2'=>h3 _ ((Y6 _ _ _).2 (Or.inr ⟨v,hv,h2',rfl⟩))⟩;obtain⟨k,hk⟩:=List.mem_iff_getElem?.1 hj;have hkl:=(List.getElem?_eq_some_iff.1 hk).1;exact h1.shut k j (by unfold E3 at hkl;omega) hk
def aX (obs:List Ob) (al:List Nat):List Ob:=obs.mapIdx fun i o=>if i∈al then o else (0,[])
def eW (obs:List Ob) (v:Val):Bool:=if v.1=2 then (match obs[v.2.toNat]? with | some o=>o.1 == 0 | none=>true) else true
def M8 (all:List Ob) (o:Ob):Ob:=if o.1=3∧eW all (o.2.headD (0,0))=true then (o.1,o.2.set 0 (0,0)) else o
def pB (obs:List Ob):List Ob:=obs.map (M8 obs)
def aH (obs:List Ob) (al:List Nat):List Ob:=pB (aX obs al)
def K8 (obs:List Ob):Nat:=(obs.filter fun o=>o.1 != 0).length
def G8 (s:McA):McA:={ s with obs:=aH s.obs (A0 s) }
theorem fW (obs:List Ob) (al:List Nat) (j:Nat):(aX obs al)[j]?=(obs[j]?).map fun o=>if j∈al then o else (0,[]):=by
 simp[aX,List.getElem?_mapIdx]
theorem dK (obs:List Ob) (al:List Nat) (j:Nat):(aH obs al)[j]?=(obs[j]?).map fun o=>M8 (aX obs al) (if j∈al then o else (0,[])):=by
 unfold aH pB;rw[List.getElem?_map,fW,Option.map_map];rfl
theorem aI (obs:List Ob) (al:List Nat):(aH obs al).length=obs.length:=by simp [aH,pB,aX]
theorem O6 (all:List Ob) (o:Ob):(M8 all o).1=o.1:=by unfold M8;split <;> rfl
def F4 (s:McA) (st:Int):McA:={ s with st:=st }
def G3 (s:McA):McA:=if K8 s.obs=s.obs.length then G8 s else s
def R6 (s:McA) (fs:List FrA) (f:FrA) (rest:List Val) (kind:Int) (fl:List Val):McA :=
 if K8 (G3 s).obs=(G3 s).obs.length then { G3 s with st:=6 }
 else match fA (G3 s).obs s.dr with
  | none=>s
  | some j=>⟨0,s.out,fs++[⟨f.fn,f.pc+1,f.loc,rest++[(2,(j.1:Int))]⟩],(G3 s).obs.set j.1 (kind,fl),j.2⟩
def A4 (obs:List Ob) (v:Val):Ob:=if v.1=2 then obs.getD v.2.toNat (0,[]) else (0,[])
def J7 (o:Ob) (kind:Int) (ix:Val):Int:=if o.1≠kind∨ix.1≠1 then 2 else if 0≤ix.2∧ix.2 < (o.2.length:Int) then 0 else 3
def eS (s:McA) (fs:List FrA) (f:FrA) (rest:List Val) (v:Val) (kind:Int) (ix:Val):McA :=
 if J7 (A4 s.obs v) kind ix=0 then goA s fs f (f.pc+1) (rest++[(A4 s.obs v).2.getD ix.2.toNat (0,0)]) else F4 s (J7 (A4 s.obs v) kind ix)
def dN (s:McA) (fs:List FrA) (f:FrA) (rest:List Val) (v:Val) (kind:Int) (ix y:Val):McA :=
 if J7 (A4 s.obs v) kind ix=0 then ⟨0,s.out,fs++[⟨f.fn,f.pc+1,f.loc,rest⟩],s.obs.set v.2.toNat ((A4 s.obs v).1,(A4 s.obs v).2.set ix.2.toNat y),s.dr⟩
 else F4 s (J7 (A4 s.obs v) kind ix)
def aW (s:McA) (v:Val):Val:=if v.1=2∧v.2.toNat∈A0 s then v else (0,0)
def L8 (s:McA) (fs:List FrA) (f:FrA) (rest:List Val) (x y:Val) (z:Int):McA :=
 if x.1=1∧y.1=1 then goA s fs f (f.pc+1) (rest++[(1,z)]) else F4 s 2
def bD (g:PgR) (a:Int) (s:McA) (fs:List FrA) (f:FrA) (rest args:List Val):McA :=
 if 12≤fs.length+1 then F4 s 5
 else ⟨0,s.out,fs++[⟨f.fn,f.pc,f.loc,rest⟩]++[⟨a.toNat,0,args++List.replicate ((g.f a.toNat).l.toNat - args.length) (0,0),[]⟩],s.obs,s.dr⟩
def E5 (s:McA) (fs:List FrA) (x:Val):McA :=
 match fs.getLast? with
 | none=>⟨1,s.out,[],s.obs,s.dr⟩
 | some c=>goA s fs.dropLast c (c.pc+1) (c.stk++[x])
def doA (g:PgR) (k:Nat) (a:Int) (s:McA) (fs:List FrA) (f:FrA) (rest args:List Val):McA :=
 match k,args with
 | 0,[]=>goA s fs f (f.pc+1) (rest++[(1,a)])
 | 1,[]=>goA s fs f (f.pc+1) (rest++[(0,0)])
 | 2,[]=>goA s fs f (f.pc+1) (rest++[f.loc.getD a.toNat (0,0)])
 | 3,[x]=>⟨0,s.out,fs++[⟨f.fn,f.pc+1,f.loc.set a.toNat x,rest⟩],s.obs,s.dr⟩
 | 4,[x]=>goA s fs f (f.pc+1) (rest++[x,x])
 | 5,[_]=>goA s fs f (f.pc+1) rest
 | 6,[x,y]=>goA s fs f (f.pc+1) (rest++[y,x])
 | 7,[x,y]=>L8 s fs f rest x y (wrap64 (x.2+y.2))
 | 8,[x,y]=>L8 s fs f rest x y (wrap64 (x.2 - y.2))
 | 9,[x,y]=>L8 s fs f rest x y (wrap64 (x.2*y.2))
 | 10,[x,y]=>L8 s fs f rest x y (Z3 (decide (x.2 < y.2)))
 | 11,[x,y]=>goA s fs f (f.pc+1) (rest++[(1,Z3 (x.1 == y.1 && x.2 == y.2))])
 | 12,[]=>goA s fs f a.toNat rest
 | 13,[x]=>if aC x then goA s fs f (f.pc+1) rest else goA s fs f a.toNat rest
 | 14,l=>bD g a s fs f rest l
 | 15,[x]=>E5 s fs x
 | 16,[]=>R6 s fs f rest 1 (List.replicate a.toNat (0,0))
 | 17,[x]=>if x.1≠1 then F4 s 2 else if 0≤x.2∧x.2≤12 then R6 s fs f rest 2 (List.replicate x.2.toNat (0,0)) else F4 s 4
 | 18,[x]=>if x.1=2 then R6 s fs f rest 3 [x] else F4 s 2
 | 19,[x]=>eS s fs f rest x 1 (1,a)
 | 20,[x,y]=>dN s fs f rest x 1 (1,a) y
 | 21,[x,y]=>eS s fs f rest x 2 y
 | 22,[x,y,z]=>dN s fs f rest x 2 y z
 | 23,[x]=>if (A4 s.obs x).1=1∨(A4 s.obs x).1=2 then goA s fs f (f.pc+1) (rest++[(1,((A4 s.obs x).2.length:Int))]) else F4 s 2
 | 24,[x]=>if (A4 s.obs x).1=3 then goA s fs f (f.pc+1) (rest++[aW s ((A4 s.obs x).2.headD (0,0))]) else F4 s 2
 | 25,[x]=>goA s fs f (f.pc+1) (rest++[(1,Z3 (x.1 == 2))])
 | 26,[x]=>if x.1≠1 then F4 s 2 else if 40≤s.out.length then F4 s 7 else ⟨0,s.out++[x.2],fs++[⟨f.fn,f.pc+1,f.loc,rest⟩],s.obs,s.dr⟩
 | 27,[]=>⟨1,s.out,[],s.obs,s.dr⟩
 | _,_=>s
def W0 (g:PgR) (s:McA):McA :=
 match s.frs.getLast? with
 | none=>s
 | some f =>
  doA g ((g.f f.fn).op f.pc).toNat ((g.f f.fn).ar f.pc) s s.frs.dropLast f
   (f.stk.take (f.stk.length - (G1 ((g.f f.fn).op f.pc) (g.f ((g.f f.fn).ar f.pc).toNat).p).toNat))
   (f.stk.drop (f.stk.length - (G1 ((g.f f.fn).op f.pc) (g.f ((g.f f.fn).ar f.pc).toNat).p).toNat))
def VOk (obs:List Ob) (v:Val):Prop:=v=(0,0)∨v.1=1∨(v.1=2∧0≤v.2∧∃o,obs[v.2.toNat]?=some o∧o.1≠0)
def OOk (obs:List Ob) (o:Ob):Prop :=
 (o.1=0∧o.2=[])∨(o.1=1∧o.2.length≤8∧∀v,v∈o.2→VOk obs v)∨(o.1=2∧o.2.length≤12∧∀v,v∈o.2→VOk obs v)∨(o.1=3∧∃v,o.2=[v]∧VOk obs v∧v.1≠1)
structure bY (g:PgR) (f:FrA) (q:Int):Prop where
 fn:f.fn < g.n
 loc:(f.loc.length:Int)=(g.f f.fn).l
 reach:(A7 g (g.f f.fn)).Reach f.pc (f.stk.length+q)
def cW (g:PgR):Nat→List FrA→Prop
 | fn,[]=>fn=0
 | fn,c::r=>bY g c (g.f fn).p∧(g.f c.fn).op c.pc=14∧(g.f c.fn).ar c.pc=fn∧cW g c.fn r
def fG (g:PgR):List FrA→Prop
 | []=>True
 | f::r=>bY g f 0∧cW g f.fn r
structure C1 (g:PgR) (s:McA):Prop where
 run:s.st=0→s.frs≠[]
 frs:fG g s.frs.reverse
 depth:s.frs.length≤12
 vals:∀f,f∈s.frs→∀v,v∈f.loc++f.stk→VOk s.obs v
 obs:∀o,o∈s.obs→OOk s.obs o
 cap:1≤s.obs.length∧s.obs.length≤40
 out:s.out.length≤40
 dr:s.dr.length≤200
theorem VOk.ref {obs:List Ob} {v:Val} (h:VOk obs v) (h2:v.1=2):0≤v.2∧∃o,obs[v.2.toNat]?=some o∧o.1≠0:=by
 rcases h with rfl | h | h
 ·simp at h2
 ·omega
 ·exact h.2
theorem VOk.lt {obs:List Ob} {v:Val} (h:VOk obs v) (h2:v.1=2):v.2.toNat < obs.length:=by
 obtain⟨_,o,ho,_⟩:=h.ref h2;exact (List.getElem?_eq_some_iff.1 ho).1
theorem OOk.vals {obs:List Ob} {o:Ob} (h:OOk obs o) {v:Val} (hv:v∈o.2):VOk obs v:=by
 rcases h with h | h | h | ⟨_,u,h,h',_⟩
 ·rw [h.2] at hv;cases hv
 ·exact h.2.2 v hv
 ·exact h.2.2 v hv
 ·rw [h,List.mem_singleton] at hv;subst hv;exact h'
theorem OOk.len {obs:List Ob} {o:Ob} (h:OOk obs o):o.2.length≤12:=by
 rcases h with h | h | h | ⟨_,u,h,_⟩
 ·rw [h.2];simp
 ·omega
 ·omega
 ·rw [h];simp
theorem C1.within {g:PgR} {s:McA} (h:C1 g s):kD s.obs:=fun o ho _ hv h2=>((h.obs o ho).vals hv).lt h2
theorem N1 {l:List FrA} {v:Val} : v∈D5 l↔∃f,f∈l∧v∈f.loc++f.stk:=by simp [D5,List.mem_flatMap]
theorem C1.alive {g:PgR} {s:McA} (h:C1 g s):Z6 s.obs (D5 s.frs) (A0 s) :=
 dX h.within fun v hv h2=>by
  obtain⟨f,hf,hv⟩:=N1.1 hv;exact (h.vals f hf v hv).lt h2
theorem VOk.mono {obs obs':List Ob} {v:Val} (h:VOk obs v) (hk:v.1=2→∀o,obs[v.2.toNat]?=some o→o.1≠0→∃o',obs'[v.2.toNat]?=some o'∧o'.1≠0):VOk obs' v:=by
 rcases h with h | h | ⟨h2,h0,o,ho,hne⟩
 ·exact Or.inl h
 ·exact Or.inr (Or.inl h)
 ·exact Or.inr (Or.inr ⟨h2,h0,hk h2 o ho hne⟩)
theorem OOk.mono {obs obs':List Ob} {o:Ob} (h:OOk obs o) (hv:∀v,v∈o.2→VOk obs v→VOk obs' v):OOk obs' o:=by
 rcases h with h | ⟨h1,h2,h3⟩ | ⟨h1,h2,h3⟩ | ⟨h1,u,h2,h3,h4⟩
 ·exact Or.inl h
 ·exact Or.inr (Or.inl ⟨h1,h2,fun v hm=>hv v hm (h3 v hm)⟩)
 ·exact Or.inr (Or.inr (Or.inl ⟨h1,h2,fun v hm=>hv v hm (h3 v hm)⟩))
 ·exact Or.inr (Or.inr (Or.inr ⟨h1,u,h2,hv u (by rw [h2];simp) h3,h4⟩))
structure F2 (g:PgR):Prop where
 sized:aO g
 legal:kW g
 fits:∀i,i < g.n→(A7 g (g.f i)).Fits
theorem a1B {g:PgR} {fs:List FrA} {f:FrA} (h:fG g (fs++[f]).reverse):bY g f 0∧cW g f.fn fs.reverse:=by
 rw[List.reverse_append] at h;exact h
theorem mW {g:PgR} {fs:List FrA} {f:FrA} (h1:bY g f 0) (h2:cW g f.fn fs.reverse):fG g (fs++[f]).reverse:=by
 rw[List.reverse_append];exact⟨h1,h2⟩
structure oM (g:PgR) (f:FrA) (k:Nat) (a:Int) (rest args:List Val):Prop where
 op:(g.f f.fn).op f.pc=k
 ar:(g.f f.fn).ar f.pc=a
 stk:f.stk=rest++args
 pops:G1 k (g.f a.toNat).p=args.length
theorem C1.top {g:PgR} {s:McA} (h:C1 g s) {fs:List FrA} {f:FrA} (hf:s.frs=fs++[f]):bY g f 0∧cW g f.fn fs.reverse:=a1B (by rw [← hf];exact h.frs)
theorem bY.at {g:PgR} (hp:F2 g) {f:FrA} {q:Int} (h:bY g f q):f.pc < (g.f f.fn).n∧Y5 g f.fn f.pc=true∧(A7 g (g.f f.fn)).pop f.pc≤f.stk.length+q∧(A7 g (g.f f.fn)).behind f.pc (f.stk.length+q)≤10:=by
 obtain⟨h1,h2,h3⟩:=(hp.fits _ h.fn).1 _ _ h.reach;exact⟨h1,hp.legal _ h.fn _ h1,h2,h3⟩
theorem C1.setTop {g:PgR} {s:McA} (h:C1 g s) {fs:List FrA} {f f':FrA} (hf:s.frs=fs++[f]) (hfn:f'.fn=f.fn) (hl:f'.loc.length=f.loc.length) (hr:(A7 g (g.f f'.fn)).Reach f'.pc f'.stk.length)
  (hv:∀v,v∈f'.loc++f'.stk→VOk s.obs v) (st:Int) (out:List Int) (ho:out.length≤40) (dr:List Int) (hd:dr.length≤200):C1 g ⟨st,out,fs++[f'],s.obs,dr⟩:=by
 obtain⟨h1,h2⟩:=h.top hf;refine⟨fun _=>by simp,mW ⟨by rw [hfn];exact h1.fn,by rw [hfn,hl];exact h1.loc,by rw [Int.add_zero];exact hr⟩ (by rw [hfn];exact h2),?_,fun x hx v hvx=>?_,h.obs,h.cap,ho,hd⟩
 ·have:=h.depth
  rw[hf] at this;simpa using this
 ·rcases List.mem_append.1 hx with hx | hx
  ·exact h.vals x (by rw [hf];simp [hx]) v hvx
  ·rw [List.mem_singleton] at hx
   subst hx;exact hv v hvx
theorem C1.here {g:PgR} {s:McA} (h:C1 g s) {fs:List FrA} {f:FrA} (hf:s.frs=fs++[f]) {v:Val} (hv:v∈f.loc++f.stk):VOk s.obs v:=h.vals f (by rw [hf];simp) v hv
theorem oM.reach {g:PgR} {s:McA} (h:C1 g s) {fs:List FrA} {f:FrA} (hf:s.frs=fs++[f]) {k:Nat} {a:Int} {rest args ps:List Val} (o:oM g f k a rest args) {c:Nat} (hc:c∈D2 f.pc k a) (hps:J9 k=ps.length) :
  (A7 g (g.f f.fn)).Reach c (rest++ps).length:=by
 have h1:=(h.top hf).1.reach;have h2:=E6.reach_next h1 (c:=c) (by show c∈D2 f.pc ((g.f f.fn).op f.pc) ((g.f f.fn).ar f.pc);rw [o.op,o.ar];exact hc);have e:(A7 g (g.f f.fn)).behind f.pc (f.stk.length+0)=(rest++ps).length:=by
  show (f.stk.length:Int)+0 - G1 ((g.f f.fn).op f.pc) (g.f ((g.f f.fn).ar f.pc).toNat).p+J9 ((g.f f.fn).op f.pc)=_;rw[o.op,o.ar,o.pops,hps,o.stk];simp only[List.length_append];omega
 rw[e] at h2;exact h2
theorem aD {g:PgR} {s:McA} (h:C1 g s) {fs:List FrA} {f:FrA} (hf:s.frs=fs++[f]) {k:Nat} {a:Int} {rest args:List Val} (o:oM g f k a rest args) (c:Nat) (ps:List Val) (hc:c∈D2 f.pc k a) (hps:J9 k=ps.length) (hv:∀v,v∈ps→VOk s.obs v) :
  C1 g (goA s fs f c (rest++ps)):=by
 refine h.setTop (f':=⟨f.fn,c,f.loc,rest++ps⟩) hf rfl rfl (o.reach h hf hc hps) (fun v hm=>?_) 0 s.out h.out s.dr h.dr;rcases List.mem_append.1 hm with hm | hm
 ·exact h.here hf (by simp [hm])
 ·rcases List.mem_append.1 hm with hm | hm
  ·exact h.here hf (by rw [o.stk];simp [hm])
  ·exact hv v hm
theorem V7 {g:PgR} {s:McA} (h:C1 g s) {fs:List FrA} {f:FrA} (hf:s.frs=fs++[f]) (t:Int):C1 g (F4 s t) :=
 ⟨fun _=>by show s.frs≠[];rw [hf];simp,h.frs,h.depth,h.vals,h.obs,h.cap,h.out,h.dr⟩
theorem C1.setObs {g:PgR} {s:McA} (h:C1 g s) {obs':List Ob} (hl:obs'.length=s.obs.length) (hv:∀f,f∈s.frs→∀v,v∈f.loc++f.stk→VOk obs' v) (ho:∀o,o∈obs'→OOk obs' o):C1 g { s with obs:=obs' } :=
 ⟨h.run,h.frs,h.depth,hv,ho,by rw [hl];exact h.cap,h.out,h.dr⟩
theorem kT {obs:List Ob} {al:List Nat} {j:Nat} {o:Ob} (ho:obs[j]?=some o) (hj:j∈al) (hne:o.1≠0):∃o',(aH obs al)[j]?=some o'∧o'.1≠0 :=
 ⟨M8 (aX obs al) o,by rw [dK,ho,Option.map_some,if_pos hj],by rw [O6];exact hne⟩
theorem yX {g:PgR} {s:McA} (h:C1 g s):∀o,o∈aH s.obs (A0 s)→OOk (aH s.obs (A0 s)) o:=by
 intro o ho;obtain⟨j,hj⟩:=List.mem_iff_getElem?.1 ho;rw[dK] at hj;obtain⟨p,hp,rfl⟩:=Option.map_eq_some_iff.1 hj;have hal:=h.alive;by_cases hm:j∈A0 s
 ·rw [if_pos hm]
  have hk:=h.obs p (List.mem_of_getElem? hp);have keep:∀v,VOk s.obs v→(v.1=2→v.2.toNat∈A0 s)→VOk (aH s.obs (A0 s)) v:=fun v hv hin=>hv.mono fun h2 o ho hne=>kT ho (hin h2) hne
  by_cases h3:p.1=3
  ·unfold M8
   split
   ·rename_i hc
    refine Or.inr (Or.inr (Or.inr ⟨h3,(0,0),?_,Or.inl rfl,by decide⟩));rcases hk with hk | hk | hk | ⟨_,u,hu,_⟩
    ·omega
    ·omega
    ·omega
    ·show p.2.set 0 (0,0)=[(0,0)]
     rw[hu];rfl
   ·rename_i hc
    rcases hk with hk | hk | hk | ⟨_,u,hu,hvu,h1⟩
    ·omega
    ·omega
    ·omega
    ·refine Or.inr (Or.inr (Or.inr ⟨h3,u,hu,hvu.mono fun h2 o ho hne=>?_,h1⟩))
     have hl:¬eW (aX s.obs (A0 s)) u=true:=fun e=>hc ⟨h3,by rw [hu];exact e⟩
     refine kT ho ?_ hne;refine Decidable.byContradiction fun hn=>hl ?_
     unfold eW;rw[if_pos h2,fW,ho,Option.map_some,if_neg hn];rfl
  ·have e:M8 (aX s.obs (A0 s)) p=p:=by unfold M8;rw [if_neg (fun hc=>h3 hc.1)]
   rw[e];exact hk.mono fun v hv hvo=>keep v hvo fun h2=>hal.shut j hm p hp h3 v hv h2
 ·rw [if_neg hm]
  exact Or.inl ⟨rfl,rfl⟩
theorem aL {g:PgR} {s:McA} (h:C1 g s):C1 g (G8 s) :=
 h.setObs (aI _ _) (fun f hf v hv=>(h.vals f hf v hv).mono fun h2 _ ho hne=>kT ho (h.alive.roots v (N1.2 ⟨f,hf,hv⟩) h2) hne) (yX h)
theorem nJ (s:McA):(G3 s).frs=s.frs:=by unfold G3;split <;> rfl
theorem lO {g:PgR} {s:McA} (h:C1 g s):C1 g (G3 s):=by
 unfold G3;split
 ·exact aL h
 ·exact h
theorem kG:∀(l:List Ob) (n j:Nat),jO l n=some j→n≤j∧∃o,l[j - n]?=some o∧o.1=0
 | [],n,j,h=>by cases h
 | o::l,n,j,h=>by
  simp only[jO] at h;by_cases h0:o.1=0
  ·rw [if_pos h0] at h
   cases h;exact⟨Nat.le_refl _,o,by simp,h0⟩
  ·rw [if_neg h0] at h
   obtain⟨h1,x,hx,hk⟩:=kG l (n+1) j h;have e:j - n=(j - (n+1))+1:=by omega
   exact⟨by omega,x,by rw [e];simpa using hx,hk⟩
theorem bM {obs:List Ob} {dr:List Int} {j:Nat × List Int} (h:fA obs dr=some j):(∃o,obs[j.1]?=some o∧o.1=0)∧j.2.length≤dr.length:=by
 cases dr with
 | nil =>
  obtain⟨i,hi,rfl⟩:=Option.map_eq_some_iff.1 h;exact⟨by simpa using (kG obs 0 i hi).2,Nat.le_refl _⟩
 | cons d r =>
  simp only[fA] at h
  cases ho:obs[(d % (obs.length:Int)).toNat]? with
  | none=>rw [ho] at h;cases h
  | some o =>
   rw[ho] at h;simp only at h;split at h
   ·rename_i hk
    cases h;exact⟨⟨o,ho,hk⟩,by simp⟩
   ·obtain ⟨i,hi,rfl⟩:=Option.map_eq_some_iff.1 h
    exact⟨by simpa using (kG obs 0 i hi).2,by simp⟩
theorem VOk.laid {obs:List Ob} {j:Nat} {p x:Ob} {v:Val} (h:VOk obs v) (hx:obs[j]?=some x) (hf:x.1=0):VOk (obs.set j p) v :=
 h.mono fun _ o ho hne=>by
  have:j≠v.2.toNat:=fun e=>by subst e;rw [ho] at hx;cases hx;exact hne hf
  exact⟨o,by rw [List.getElem?_set_ne this];exact ho,hne⟩
theorem wO {g:PgR} {s:McA} (h:C1 g s) {fs:List FrA} {f:FrA} (hf:s.frs=fs++[f]) {k:Nat} {a:Int} {rest args:List Val} (o:oM g f k a rest args) (hc:f.pc+1∈D2 f.pc k a) (hps:J9 k=1) (kind:Int) (fl:List Val)
  (hk:kind≠0) (ho:OOk (G3 s).obs (kind,fl)):C1 g (R6 s fs f rest kind fl):=by
 have hr:=lO h;have hfr:(G3 s).frs=fs++[f]:=(nJ s).trans hf;unfold R6;split
 ·exact V7 hr hfr 6
 ·split
  ·exact h
  ·rename_i j hj
   obtain⟨⟨x,hx,hx0⟩,hd⟩:=bM hj;have hjl:=(List.getElem?_eq_some_iff.1 hx).1;have hold:∀v,VOk (G3 s).obs v→VOk ((G3 s).obs.set j.1 (kind,fl)) v:=fun v hv=>hv.laid hx hx0
   have h1:C1 g { G3 s with obs:=(G3 s).obs.set j.1 (kind,fl) }:=by
    refine hr.setObs Q9 (fun f hf v hv=>hold v (hr.vals f hf v hv)) fun p hp=>?_
    rcases List.mem_or_eq_of_mem_set hp with hp | rfl
    ·exact (hr.obs p hp).mono fun v _ hv=>hold v hv
    ·exact ho.mono fun v _ hv=>hold v hv
   have hnew:VOk ((G3 s).obs.set j.1 (kind,fl)) (2,(j.1:Int)):=Or.inr (Or.inr ⟨rfl,by simp,(kind,fl),by simp [hjl],hk⟩);have hgo:=h1.setTop (f':=⟨f.fn,f.pc+1,f.loc,rest++[(2,(j.1:Int))]⟩) (fs:=fs) (f:=f) hfr rfl rfl (o.reach h hf hc (by rw [hps];rfl)) (fun v hm=>?_) 0 s.out h.out j.2 (Nat.le_trans hd h.dr)
   ·exact hgo
   ·rcases List.mem_append.1 hm with hm | hm
    ·exact h1.here (fs:=fs) (f:=f) hfr (by simp [hm])
    ·rcases List.mem_append.1 hm with hm | hm
     ·exact h1.here (fs:=fs) (f:=f) hfr (by rw [o.stk];simp [hm])
     ·rw [List.mem_singleton] at hm
      subst hm;exact hnew
theorem aU {g:PgR} {s:McA} (h:C1 g s) {v:Val} : OOk s.obs (A4 s.obs v):=by
 unfold A4;split
 ·rw [List.getD_eq_getElem?_getD]
  cases e:s.obs[v.2.toNat]? with
  | none=>exact Or.inl ⟨rfl,rfl⟩
  | some o=>exact h.obs o (List.mem_of_getElem? e)
 ·exact Or.inl ⟨rfl,rfl⟩
theorem fC {o:Ob} {kind:Int} {ix:Val} (h:J7 o kind ix=0):o.1=kind∧ix.1=1∧0≤ix.2∧ix.2.toNat < o.2.length:=by
 unfold J7 at h;split at h
 ·cases h
 ·rename_i h1
  split at h
  ·rename_i h2
   exact⟨Decidable.byContradiction fun e=>h1 (Or.inl e),Decidable.byContradiction fun e=>h1 (Or.inr e),h2.1,by omega⟩
  ·cases h
theorem a3e {g:PgR} {s:McA} (h:C1 g s) {fs:List FrA} {f:FrA} (hf:s.frs=fs++[f]) {k:Nat} {a:Int} {rest args:List Val} (o:oM g f k a rest args) (hc:f.pc+1∈D2 f.pc k a) (hps:J9 k=1) (v:Val) (kind:Int) (ix:Val):C1 g (eS s fs f rest v kind ix):=by
 unfold eS;split
 ·rename_i hr
  obtain⟨_,_,_,hl⟩:=fC hr;refine aD h hf o _ _ hc (by rw [hps];rfl) fun u hu=>?_
  rw[List.mem_singleton] at hu;subst hu;refine (aU h (v:=v)).vals (v:=(A4 s.obs v).2.getD ix.2.toNat (0,0)) ?_;rw[List.getD_eq_getElem?_getD,List.getElem?_eq_getElem hl];exact List.getElem_mem hl
 ·exact V7 h hf _
theorem fU {obs:List Ob} {v:Val} (h:(A4 obs v).1≠0):v.1=2∧obs[v.2.toNat]?=some (A4 obs v):=by
 unfold A4 at h ⊢;by_cases h2:v.1=2
 ·rw [if_pos h2,List.getD_eq_getElem?_getD] at h ⊢
  cases e:obs[v.2.toNat]? with
  | none=>rw [e] at h;exact absurd rfl h
  | some o=>exact ⟨h2,rfl⟩
 ·rw [if_neg h2] at h
  exact absurd rfl h
theorem a3f {g:PgR} {s:McA} (h:C1 g s) {fs:List FrA} {f:FrA} (hf:s.frs=fs++[f]) {k:Nat} {a:Int} {rest args:List Val} (o:oM g f k a rest args) (hc:f.pc+1∈D2 f.pc k a) (hps:J9 k=0) (v:Val) (kind:Int) (hkind:kind=1∨kind=2) (ix y:Val) (hy:VOk s.obs y):C1 g (dN s fs f rest v kind ix y):=by
 unfold dN;split
 ·rename_i hr
  obtain⟨hk,_,_,hl⟩:=fC hr;obtain⟨_,hg⟩:=fU (obs:=s.obs) (v:=v) (by rw [hk];omega);have hjl:=(List.getElem?_eq_some_iff.1 hg).1;have hro:=aU h (v:=v);generalize A4 s.obs v=p at *
  have hold:∀u,VOk s.obs u→VOk (s.obs.set v.2.toNat (p.1,p.2.set ix.2.toNat y)) u:=fun u hu=>hu.mono fun _ q hq hne=>by
   by_cases e:v.2.toNat=u.2.toNat
   ·rw [e] at hjl
    rw[e,List.getElem?_set_self hjl];exact⟨_,rfl,by show p.1≠0;omega⟩
   ·exact ⟨q,by rw [List.getElem?_set_ne e];exact hq,hne⟩
  have h1:C1 g { s with obs:=s.obs.set v.2.toNat (p.1,p.2.set ix.2.toNat y) }:=by
   refine h.setObs Q9 (fun f hf u hu=>hold u (h.vals f hf u hu)) fun q hq=>?_
   rcases List.mem_or_eq_of_mem_set hq with hq | rfl
   ·exact (h.obs q hq).mono fun u _ hu=>hold u hu
   ·have hvals:∀u,u∈p.2.set ix.2.toNat y→VOk (s.obs.set v.2.toNat (p.1,p.2.set ix.2.toNat y)) u:=fun u hu=>by
     rcases List.mem_or_eq_of_mem_set hu with hu | rfl
     ·exact hold u (hro.vals hu)
     ·exact hold u hy
    rcases hro with hro | hro | hro | hro
    ·omega
    ·exact Or.inr (Or.inl ⟨hro.1,by simpa using hro.2.1,hvals⟩)
    ·exact Or.inr (Or.inr (Or.inl ⟨hro.1,by simpa using hro.2.1,hvals⟩))
    ·have:=hro.1;omega
  have hrest:=o.reach h hf (ps:=[]) hc (by rw [hps];rfl);rw[List.append_nil] at hrest;refine h1.setTop (f':=⟨f.fn,f.pc+1,f.loc,rest⟩) (fs:=fs) (f:=f) hf rfl rfl hrest (fun u hm=>?_) 0 s.out h.out s.dr h.dr;refine h1.here (fs:=fs) (f:=f) hf ?_;rw[o.stk];rcases List.mem_append.1 hm with hm | hm
  ·simp [hm]
  ·simp [hm]
 ·exact V7 h hf _
theorem a6u {g:PgR} (hp:F2 g) {s:McA} (h:C1 g s) {fs:List FrA} {f:FrA} (hf:s.frs=fs++[f]) {a:Int} {rest args:List Val} (o:oM g f 14 a rest args):C1 g (bD g a s fs f rest args):=by
 unfold bD;split
 ·exact V7 h hf 5
 ·rename_i hd
  obtain⟨h1,h2⟩:=h.top hf;obtain⟨_,hl,_,_⟩:=h1.at hp;have hca:=L9 hl o.op;rw[o.ar] at hca;have han:a.toNat < g.n:=by omega
  have hbd:=hp.sized.bd han;have hpn:(g.f a.toNat).p=args.length:=by have:=o.pops;simpa [G1] using this
  have hreach:(A7 g (g.f f.fn)).Reach f.pc (rest.length+(g.f a.toNat).p):=by
   have:=h1.reach;rw[o.stk,List.length_append] at this;rw[hpn];simpa using this
  refine⟨fun _=>by simp,mW ⟨han,?_,by simpa using E6.reach_first _⟩ ?_,by simp;omega,fun x hx v hv=>?_,h.obs,h.cap,h.out,h.dr⟩
  ·simp only [List.length_append,List.length_replicate]
   omega
  ·rw [List.reverse_append]
   exact⟨⟨h1.fn,h1.loc,hreach⟩,o.op,by show (g.f f.fn).ar f.pc=(a.toNat:Int);rw [o.ar];omega,h2⟩
  ·rcases List.mem_append.1 hx with hx | hx
   ·rcases List.mem_append.1 hx with hx | hx
    ·exact h.vals x (by rw [hf];simp [hx]) v hv
    ·rw [List.mem_singleton] at hx
     subst hx;refine h.here hf ?_;rw[o.stk];rcases List.mem_append.1 hv with hv | hv
     ·simp [hv]
     ·simp [hv]
   ·rw [List.mem_singleton] at hx
    subst hx;rw[List.append_nil] at hv;rcases List.mem_append.1 hv with hv | hv
    ·exact h.here hf (by rw [o.stk];simp [hv])
    ·exact Or.inl (List.eq_of_mem_replicate hv)
theorem a1G {g:PgR} {s:McA} (h:C1 g s) {fs:List FrA} {f:FrA} (hf:s.frs=fs++[f]) {x:Val} (hx:VOk s.obs x):C1 g (E5 s fs x):=by
 unfold E5;split
 ·rename_i he
  rw[List.getLast?_eq_none_iff] at he;exact⟨fun e=>(by cases e),trivial,Q9,fun f hf=>(by cases hf),h.obs,h.cap,h.out,h.dr⟩
 ·rename_i c hc
  obtain⟨hne,rfl⟩:∃hne,fs.getLast hne=c:=by
   cases hfs:fs with
   | nil=>rw [hfs] at hc;cases hc
   | cons y l=>exact ⟨by simp,by rw [hfs] at hc;rw [List.getLast?_eq_some_getLast Q9] at hc;exact Option.some.inj hc⟩
  have hfs:fs=fs.dropLast++[fs.getLast hne]:=(List.dropLast_concat_getLast hne).symm;obtain⟨h1,h2⟩:=h.top hf;generalize fs.getLast hne=c at *
  generalize fs.dropLast=r at *
  subst hfs;rw[List.reverse_append] at h2;obtain⟨q1,q2,q3,q4⟩:=h2;have hreach:(A7 g (g.f c.fn)).Reach (c.pc+1) (c.stk++[x]).length:=by
   have h3:=E6.reach_next q1.reach (c:=c.pc+1) (by show c.pc+1∈D2 c.pc ((g.f c.fn).op c.pc) ((g.f c.fn).ar c.pc);rw [q2];simp [D2]);have e:(A7 g (g.f c.fn)).behind c.pc (c.stk.length+(g.f f.fn).p)=(c.stk++[x]).length:=by
    show (c.stk.length:Int)+(g.f f.fn).p - G1 ((g.f c.fn).op c.pc) (g.f ((g.f c.fn).ar c.pc).toNat).p+J9 ((g.f c.fn).op c.pc)=_;rw[q2,q3];simp[G1,J9]
   rw[e] at h3;exact h3
  refine⟨fun _=>by simp [goA],mW ⟨q1.fn,q1.loc,by rw [Int.add_zero];exact hreach⟩ q4,?_,fun y hy v hv=>?_,h.obs,h.cap,h.out,h.dr⟩
  ·have:=h.depth
   rw[hf] at this;simp at this;simp[goA];omega
  ·rcases List.mem_append.1 hy with hy | hy
   ·exact h.vals y (by rw [hf];simp [hy]) v hv
   ·rw [List.mem_singleton] at hy
    subst hy;rcases List.mem_append.1 hv with hv | hv
    ·exact h.vals c (by rw [hf];simp) v (by simp [hv])
    ·rcases List.mem_append.1 hv with hv | hv
     ·exact h.vals c (by rw [hf];simp) v (by simp [hv])
     ·rw [List.mem_singleton] at hv
      subst hv;exact hx
theorem bC {args:List Val} {q:Int} (h:q=(args.length:Int)) (hq:q=0):args=[]:=List.length_eq_zero_iff.1 Q8
theorem L4 {args:List Val} {q:Int} (h:q=(args.length:Int)) (hq:q=1):∃x,args=[x]:=by
 match args,h with
 | [x],_=>exact ⟨x,rfl⟩
 | [],h=>simp at h;omega
 | _::_::_,h=>simp at h;omega
theorem W8 {args:List Val} {q:Int} (h:q=(args.length:Int)) (hq:q=2):∃x y,args=[x,y]:=by
 match args,h with
 | [x,y],_=>exact ⟨x,y,rfl⟩
 | [],h=>simp at h;omega
 | [_],h=>simp at h;omega
 | _::_::_::_,h=>simp at h;omega
theorem a5M {args:List Val} {q:Int} (h:q=(args.length:Int)) (hq:q=3):∃x y z,args=[x,y,z]:=by
 match args,h with
 | [x,y,z],_=>exact ⟨x,y,z,rfl⟩
 | [],h=>simp at h;omega
 | [_],h=>simp at h;omega
 | [_,_],h=>simp at h;omega
 | _::_::_::_::_,h=>simp at h;omega
theorem mE {obs:List Ob} (n:Int):VOk obs (1,n):=Or.inr (Or.inl rfl)
theorem xU {obs:List Ob} : VOk obs (0,0):=Or.inl rfl
theorem cS {obs:List Ob} {x:Val} (h:VOk obs x):∀v,v∈[x]→VOk obs v:=fun v hv=>by rw [List.mem_singleton] at hv;subst hv;exact h
theorem a3t {obs:List Ob} {x y:Val} (h:VOk obs x) (h':VOk obs y):∀v,v∈[x,y]→VOk obs v:=fun v hv=>by
 rcases List.mem_cons.1 hv with rfl | hv
 ·exact h
 ·exact cS h' v hv
theorem fM {g:PgR} {s:McA} (h:C1 g s) {fs:List FrA} {f:FrA} (hf:s.frs=fs++[f]) {k:Nat} {a:Int} {rest args:List Val} (o:oM g f k a rest args) (hc:f.pc+1∈D2 f.pc k a) (hps:J9 k=1) (x y:Val) (z:Int):C1 g (L8 s fs f rest x y z):=by
 unfold L8;split
 ·exact aD h hf o _ _ hc hps (cS (mE z))
 ·exact V7 h hf 2
theorem a7d {g:PgR} {s:McA} (h:C1 g s) {fs:List FrA} {f:FrA} (hf:s.frs=fs++[f]) {v:Val} (hv:v∈f.loc++f.stk):VOk (G3 s).obs v:=(lO h).here ((nJ s).trans hf) hv
theorem a6v {g:PgR} (hp:F2 g) {s:McA} (h:C1 g s) {fs:List FrA} {f:FrA} (hf:s.frs=fs++[f]) {k:Nat} {a:Int} {rest args:List Val} (o:oM g f k a rest args):C1 g (doA g k a s fs f rest args):=by
 obtain⟨h1,h2⟩:=h.top hf;obtain⟨hpc,hl,_,_⟩:=h1.at hp;have hk:=dD hl;rw[o.op] at hk;have hargs:∀v,v∈args→VOk s.obs v:=fun v hv=>h.here hf (by rw [o.stk];simp [hv])
 have hroom:∀v,v∈args→VOk (G3 s).obs v:=fun v hv=>a7d h hf (by rw [o.stk];simp [hv])
 have hn:=o.pops;have hcase:k=0∨k=1∨k=2∨k=3∨k=4∨k=5∨k=6∨k=7∨k=8∨k=9∨k=10∨k=11∨k=12∨k=13∨k=14∨k=15∨k=16∨k=17∨k=18∨k=19∨k=20∨k=21∨k=22∨k=23∨k=24∨k=25∨k=26∨k=27:=by omega
 rcases hcase with rfl | rfl | rfl | rfl | rfl | rfl | rfl | rfl | rfl | rfl | rfl | rfl | rfl | rfl | rfl | rfl | rfl | rfl | rfl | rfl | rfl | rfl | rfl | rfl | rfl | rfl | rfl | rfl
 ·obtain rfl:=bC hn rfl
  exact aD h hf o _ _ (by simp [D2]) rfl (cS (mE _))
 ·obtain rfl:=bC hn rfl
  exact aD h hf o _ _ (by simp [D2]) rfl (cS xU)
 ·obtain rfl:=bC hn rfl
  refine aD h hf o _ _ (by simp [D2]) rfl (cS ?_);rw[List.getD_eq_getElem?_getD]
  cases e:f.loc[a.toNat]? with
  | none=>exact xU
  | some x=>exact h.here hf (by simp [List.mem_of_getElem? e])
 ·obtain ⟨x,rfl⟩:=L4 hn rfl
  have hr:=o.reach h hf (ps:=[]) (c:=f.pc+1) (by simp [D2]) rfl;rw[List.append_nil] at hr;refine h.setTop (f':=⟨f.fn,f.pc+1,f.loc.set a.toNat x,rest⟩) hf rfl Q9 hr (fun v hv=>?_) 0 s.out h.out s.dr h.dr;rcases List.mem_append.1 hv with hv | hv
  ·rcases List.mem_or_eq_of_mem_set hv with hv | rfl
   ·exact h.here hf (by simp [hv])
   ·exact hargs v Q9
  ·exact h.here hf (by rw [o.stk];simp [hv])
 ·obtain ⟨x,rfl⟩:=L4 hn rfl
  exact aD h hf o _ _ (by simp [D2]) rfl (a3t (hargs x Q9) (hargs x Q9))
 ·obtain ⟨x,rfl⟩:=L4 hn rfl
  have:=aD h hf o (f.pc+1) [] (by simp [D2]) rfl Q9;rwa [List.append_nil] at this
 ·obtain ⟨x,y,rfl⟩:=W8 hn rfl
  exact aD h hf o _ _ (by simp [D2]) rfl (a3t (hargs y Q9) (hargs x Q9))
 ·obtain ⟨x,y,rfl⟩:=W8 hn rfl
  exact fM h hf o (by simp [D2]) rfl _ _ _
 ·obtain ⟨x,y,rfl⟩:=W8 hn rfl
  exact fM h hf o (by simp [D2]) rfl _ _ _
 ·obtain ⟨x,y,rfl⟩:=W8 hn rfl
  exact fM h hf o (by simp [D2]) rfl _ _ _
 ·obtain ⟨x,y,rfl⟩:=W8 hn rfl
  exact fM h hf o (by simp [D2]) rfl _ _ _
 ·obtain ⟨x,y,rfl⟩:=W8 hn rfl
  exact aD h hf o _ _ (by simp [D2]) rfl (cS (mE _))
 ·obtain rfl:=bC hn rfl
  have:=aD h hf o a.toNat [] (by simp [D2]) rfl Q9;rwa [List.append_nil] at this
 ·obtain ⟨x,rfl⟩:=L4 hn rfl
  show C1 g (if aC x=true then goA s fs f (f.pc+1) rest else goA s fs f a.toNat rest);split
  ·have:=aD h hf o (f.pc+1) [] (by simp [D2]) rfl Q9
   rwa [List.append_nil] at this
  ·have:=aD h hf o a.toNat [] (by simp [D2]) rfl Q9
   rwa [List.append_nil] at this
 ·show C1 g (bD g a s fs f rest args)
  exact a6u hp h hf o
 ·obtain ⟨x,rfl⟩:=L4 hn rfl
  exact a1G h hf (hargs x Q9)
 ·obtain rfl:=bC hn rfl
  refine wO h hf o (by simp [D2]) rfl _ _ Q7 (Or.inr (Or.inl ⟨rfl,?_,fun v hv=>Or.inl (List.eq_of_mem_replicate hv)⟩));have hl':D3 g.n (g.f f.fn).l (g.f f.fn).n ((g.f f.fn).op f.pc) ((g.f f.fn).ar f.pc)=true:=hl;rw[o.op,o.ar] at hl';have:B9 a 0 8=true:=hl';rw[L6] at this;simp only[List.length_replicate];omega
 ·obtain ⟨x,rfl⟩:=L4 hn rfl
  show C1 g (if x.1≠1 then F4 s 2 else if 0≤x.2∧x.2≤12 then R6 s fs f rest 2 (List.replicate x.2.toNat (0,0)) else F4 s 4);split
  ·exact V7 h hf _
  ·split
   ·rename_i hx
    refine wO h hf o (by simp [D2]) rfl _ _ Q7 (Or.inr (Or.inr (Or.inl ⟨rfl,?_,fun v hv=>Or.inl (List.eq_of_mem_replicate hv)⟩)));simp only[List.length_replicate];omega
   ·exact V7 h hf _
 ·obtain ⟨x,rfl⟩:=L4 hn rfl
  show C1 g (if x.1=2 then R6 s fs f rest 3 [x] else F4 s 2);split
  ·rename_i hx
   exact wO h hf o (by simp [D2]) rfl _ _ Q7 (Or.inr (Or.inr (Or.inr ⟨rfl,x,rfl,hroom x Q9,by omega⟩)))
  ·exact V7 h hf _
 ·obtain ⟨x,rfl⟩:=L4 hn rfl
  exact a3e h hf o (by simp [D2]) rfl _ _ _
 ·obtain ⟨x,y,rfl⟩:=W8 hn rfl
  exact a3f h hf o (by simp [D2]) rfl _ _ (Or.inl rfl) _ _ (hargs y Q9)
 ·obtain ⟨x,y,rfl⟩:=W8 hn rfl
  exact a3e h hf o (by simp [D2]) rfl _ _ _
 ·obtain ⟨x,y,z,rfl⟩:=a5M hn rfl
  exact a3f h hf o (by simp [D2]) rfl _ _ (Or.inr rfl) _ _ (hargs z Q9)
 ·obtain ⟨x,rfl⟩:=L4 hn rfl
  show C1 g (if (A4 s.obs x).1=1∨(A4 s.obs x).1=2 then goA s fs f (f.pc+1) (rest++[(1,((A4 s.obs x).2.length:Int))]) else F4 s 2);split
  ·exact aD h hf o _ _ (by simp [D2]) rfl (cS (mE _))
  ·exact V7 h hf _
 ·obtain ⟨x,rfl⟩:=L4 hn rfl
  show C1 g (if (A4 s.obs x).1=3 then goA s fs f (f.pc+1) (rest++[aW s ((A4 s.obs x).2.headD (0,0))]) else F4 s 2);split
  ·rename_i h3
   refine aD h hf o _ _ (by simp [D2]) rfl (cS ?_);unfold aW;split
   ·rcases aU h (v:=x) with hr | hr | hr | ⟨_,u,hu,hv,_⟩
    ·omega
    ·omega
    ·omega
    ·rw [hu];exact hv
   ·exact xU
  ·exact V7 h hf _
 ·obtain ⟨x,rfl⟩:=L4 hn rfl
  exact aD h hf o _ _ (by simp [D2]) rfl (cS (mE _))
 ·obtain ⟨x,rfl⟩:=L4 hn rfl
  show C1 g (if x.1≠1 then F4 s 2 else if 40≤s.out.length then F4 s 7 else ⟨0,s.out++[x.2],fs++[⟨f.fn,f.pc+1,f.loc,rest⟩],s.obs,s.dr⟩);split
  ·exact V7 h hf _
  ·split
   ·exact V7 h hf _
   ·rename_i hx ho
    have hr:=o.reach h hf (ps:=[]) (c:=f.pc+1) (by simp [D2]) rfl;rw[List.append_nil] at hr;refine h.setTop (f':=⟨f.fn,f.pc+1,f.loc,rest⟩) hf rfl rfl hr (fun v hv=>?_) 0 _ Q5 s.dr h.dr;rcases List.mem_append.1 hv with hv | hv
    ·exact h.here hf (by simp [hv])
    ·exact h.here hf (by rw [o.stk];simp [hv])
 ·obtain rfl:=bC hn rfl
  exact⟨fun e=>(by cases e),trivial,Nat.zero_le _,fun f hf=>(by cases hf),h.obs,h.cap,h.out,h.dr⟩
theorem C1.opAt {g:PgR} (hp:F2 g) {s:McA} (h:C1 g s) {fs:List FrA} {f:FrA} (hf:s.frs=fs++[f]) :
  ∃(k:Nat) (a:Int) (rest args:List Val),k < 28∧oM g f k a rest args∧W0 g s=doA g k a s fs f rest args:=by
 obtain⟨h1,_⟩:=h.top hf;obtain⟨hpc,hl,hpop,_⟩:=h1.at hp;have hk:=dD hl;obtain⟨k,hk'⟩:=Int.eq_ofNat_of_zero_le hk.1;obtain⟨n,hn⟩:=Int.eq_ofNat_of_zero_le (show 0≤G1 ((g.f f.fn).op f.pc) (g.f ((g.f f.fn).ar f.pc).toNat).p from ((pC hp.sized hp.legal h1.fn).pop_bd hpc).1);have hle:n≤f.stk.length:=by
  have:G1 ((g.f f.fn).op f.pc) (g.f ((g.f f.fn).ar f.pc).toNat).p≤(f.stk.length:Int)+0:=hpop;omega
 refine⟨k,(g.f f.fn).ar f.pc,f.stk.take (f.stk.length - n),f.stk.drop (f.stk.length - n),by omega,⟨hk',rfl,by simp,by rw [← hk',hn];simp;omega⟩,?_⟩;unfold W0;have e1:s.frs.getLast?=some f:=by rw [hf];simp
 have e2:s.frs.dropLast=fs:=by rw [hf];simp
 rw[e1,e2];simp only;rw[hn,hk'];rfl
theorem eU {g:PgR} (hp:F2 g) {s:McA} (h:C1 g s) (h0:s.st=0):C1 g (W0 g s):=by
 have hne:=h.run h0;obtain⟨k,a,rest,args,_,o,e⟩:=h.opAt hp (List.dropLast_concat_getLast hne).symm;rw[e];exact a6v hp h (List.dropLast_concat_getLast hne).symm o
def runA (g:PgR):Nat→McA→McA
 | 0,s=>s
 | n+1,s=>if s.st=0 then runA g n (W0 g s) else s
def G4 (g:PgR):Nat→McA→Nat
 | 0,_=>0
 | n+1,s=>if s.st=0 then G4 g n (W0 g s)+1 else 0
theorem lP {g:PgR} (hp:F2 g):∀(n:Nat) {s:McA},C1 g s→C1 g (runA g n s)
 | 0,_,h=>h
 | n+1,s,h=>by
  rw[runA];split
  ·rename_i h0;exact lP hp n (eU hp h h0)
  ·exact h
theorem nM (g:PgR):∀(n:Nat) (s:McA),G4 g n s≤n
 | 0,_=>Nat.le_refl _
 | n+1,s=>by
  rw[G4];split
  ·have:=nM g n (W0 g s);omega
  ·omega
theorem sP (g:PgR):∀(n:Nat) (s:McA),runA g (G4 g n s) s=runA g n s∧G4 g (G4 g n s) s=G4 g n s
 | 0,_=>⟨rfl,rfl⟩
 | n+1,s=>by
  by_cases h:s.st=0
  ·rw [G4,if_pos h,runA,if_pos h,G4,if_pos h]
   obtain⟨h1,h2⟩:=sP g n (W0 g s);refine⟨?_,by rw [h2]⟩;rw[h1,runA,if_pos h]
  ·rw [G4,if_neg h,runA,runA,if_neg h]
   exact⟨rfl,rfl⟩
def aA (w:World) (a:Option Addr) (l:List Nat):Prop:=0 < l.length→∃b,a=some ⟨b,0,none⟩∧b < w.heap.size∧∀(i x:Nat),l[i]?=some x→w.cell? ⟨b,i,none⟩=some (.int .i64 (x:Int))
theorem a4e (a:Option Addr) (l:List Nat) (c x:Nat) (w:World) (hl:l.length≤1000) (hs:aA w a l) :
  Calls Tryz.prog 75 #[.slice a l.length c,.int .i64 (x:Int)] w fun e w'=>(∃r:Int,e=.returned (.int .i64 r)∧(0≤r↔x∈l))∧Below w.heap.size w w':=by
 have HS:=hid hs;clear hs;go_enter Tryz.func75,Tryz.ntmps75;go_wp2_with fail;go_loopw [8] (fun v wr=>∃i:Nat,i≤l.length∧v=.int .i64 i∧x∉l.take i∧Below w.heap.size w wr) (fun v _=>l.length - (intOf v).toNat)
 case atStart=>exact ⟨0,Nat.zero_le _,rfl,by simp,Below.refl _ _⟩
 case round =>
  obtain⟨i,hi,rfl,hni,hbel⟩:=hrel;have HBEL:=hid hbel;have HNI:=hid hni;by_cases hlt:i < l.length
  ·obtain ⟨b,rfl,hb,hc⟩:=HS.out Q8
   obtain⟨y,hy⟩:∃y,l[i]?=some y:=⟨_,List.getElem?_eq_getElem hlt⟩
   have k0:=(hbel.cell (p:=⟨b,i,none⟩) hb).trans (hc i y hy);have hlw:b < wr.heap.size:=Nat.lt_of_lt_of_le hb hbel.size;have HY:=hid hy;clear hc hbel hni hy
   cases hxy:((x:Int) == (y:Int))
   ·go_wp2_with fail
    go_roundw
    case rel=>exact ⟨i+1,by omega,by go_num,by
     rw[List.take_add_one,HY.out];simp only[Option.toList_some,List.mem_append,List.mem_singleton,not_or];exact⟨HNI.out,fun e=>by subst e;simp at hxy⟩,by repeat (first | exact HBEL.out | refine Below.drew ?_ | refine Below.drewQ ?_ _)⟩
    case measure=>simp [intOf];omega
   ·go_wp2_with fail
    go_ret;refine⟨⟨(i:Int),rfl,⟨fun _=>?_,fun _=>by omega⟩⟩,by repeat (first | exact HBEL.out | refine Below.drew ?_ | refine Below.drewQ ?_ _)⟩;have:x=y:=by have:=beq_iff_eq.1 hxy;omega
    rw[this];exact List.mem_of_getElem? HY.out
  ·obtain rfl:i=l.length:=by omega
   clear hbel hni;go_wp2_with fail;go_ret;refine⟨⟨-1,rfl,⟨fun h=>by omega,fun h=>?_⟩⟩,HBEL.out⟩;have:=HNI.out;rw[List.take_length] at this;exact absurd h this
theorem kO {P:Program} (w:World) (t ty:TypeId) (base:Nat) (e:TypeId) (i:TypeInfo) (size:Nat) (ht:P.underlying t=some (.slice e)) (hi:P.info? e=some i) (v:Value) (n:Nat) (xs:List Value) (hown:w.ownsRow base e size v n xs) (a:Option Addr) (c:Nat) :
  (Builtin.append_ #[t,t] ty #[v,.slice a 0 c]).run P w=.ok v w:=by
 have hv:(v=.slice none 0 0∧n=0)∨∃g cap,v=.slice (some ⟨g,0,none⟩) n cap∧n≤cap:=by
  rcases hown.2 with h | ⟨g,cap,cur,h1,_,_,h2,_⟩
  ·exact Or.inl h
  ·exact Or.inr ⟨g,cap,h1,h2⟩
 have hf:(Builtin.firstCells i.size 0 (.slice a 0 c)).run P w=.ok #[] w:=by
  cases a with
  | none=>simp [Builtin.firstCells]
  | some ad=>simpa using run_firstCells_some (P:=P) w i.size 0 ad 0 c [] Q9 Q9
 rcases hv with ⟨rfl,rfl⟩ | ⟨g,cap,rfl,hle⟩
 ·simp [Builtin.append_,run_underlying ht,sizeOf,typeInfo,hi,Builtin.lenOf,hf]
 ·simp [Builtin.append_,run_underlying ht,sizeOf,typeInfo,hi,Builtin.lenOf,hf,hle,storeCells]
theorem sQ {P:Program} (w:World) (t ty:TypeId) (base:Nat) (e:TypeId) (i:TypeInfo) (z:Value) (size bytes:Nat) (ht:P.underlying t=some (.slice e)) (hi:P.info? e=some i) (hz:i.zero=some z)
  (hsize:i.size=size) (hby:i.bytes=bytes) (hzs:z.cells.size=size) (hsz:0 < size) (v:Value) (n:Nat) (xs:List Value) (hown:w.ownsRow base e size v n xs)
  (a:Option Addr) (m c:Nat) (news:List Value) (hl:news.length=m*size) (hnews:0 < m→∃ad,a=some ad∧∀j u,news[j]?=some u→w.cell? (ad.add j)=some u) (h1:∀u∈news,u.oneCell'=true)
  (h63:n+m≤maxLen) (hbytes:(n+m)*bytes≤140737488355328) (hbase:base≤w.heap.size) :
  ∃v' w',(Builtin.append_ #[t,t] ty #[v,.slice a m c]).run P w=.ok v' w'∧w'.ownsRow base e size v' (n+m) (xs++news)∧w.grownBy w' v.ownBlock∧∀g,v'.ownBlock=some g→v.ownBlock=some g∨g=w.heap.size:=by
 rcases Nat.eq_zero_or_pos m with rfl | hm
 ·have h0:news=[]:=List.length_eq_zero_iff.1 Q8
  subst h0;exact⟨v,w,kO w t ty base e i size ht hi v n xs hown a c,by simpa using hown,⟨rfl,rfl,rfl,Nat.le_refl _,fun _ _ _=>rfl⟩,fun _ h=>Or.inl h⟩
 ·obtain ⟨ad,rfl,hc⟩:=hnews hm
  obtain⟨g,cap,w',hr,h2,h3,h4,_⟩:=run_append_lies (P:=P) w t ty base e i z size bytes ht hi hz hsize hby hzs hsz v n xs hown ad m c news hl hc h1 hm h63 hbytes hbase _ rfl
  exact⟨_,w',hr,h2,h3,fun b hb=>by obtain rfl:g=b:=by simpa [Value.ownBlock] using hb
                                   exact h4⟩
theorem jT {P:Program} (w:World) {o:Oper} {a:Act} {K:Act→World→Prop} {Q:Exit→Act→World→Prop} (s x:Operand) (t:TypeId)
  (ho:o.op=.call { callee:=.builtin .append,args:=#[s,x],argTypes:=#[t,t] })
  (base:Nat) (e:TypeId) (i:TypeInfo) (z:Value) (size bytes:Nat) (ht:P.underlying t=some (.slice e)) (hi:P.info? e=some i) (hz:i.zero=some z)
  (hsize:i.size=size) (hby:i.bytes=bytes) (hzs:z.cells.size=size) (hsz:0 < size)
  (v:Value) (n:Nat) (xs:List Value) (hs:a.eval s=v) (hown:w.ownsRow base e size v n xs)
  (ad:Option Addr) (m c:Nat) (news:List Value) (hx:a.eval x=.slice ad m c) (hl:news.length=m*size) (hnews:0 < m→∃d,ad=some d∧∀j u,news[j]?=some u→w.cell? (d.add j)=some u) (h1:∀u∈news,u.oneCell'=true)
  (h63:n+m≤maxLen) (hbytes:(n+m)*bytes≤140737488355328) (hbase:base≤w.heap.size)
  (h:∀v' w',w'.ownsRow base e size v' (n+m) (xs++news)→w.grownBy w' v.ownBlock→(∀g,v'.ownBlock=some g→v.ownBlock=some g∨g=w.heap.size)→K (a.put o.dst v') w'):o.wp P a w K Q:=by
 obtain⟨v',w',hr,h2,h3,h4⟩:=sQ (P:=P) w t o.type base e i z size bytes ht hi hz hsize hby hzs hsz v n xs hown ad m c news hl hnews h1 h63 hbytes hbase;unfold Oper.wp execOp;simp only[ho,resolve,invoke,builtin,Sem.run_bind,Sem.run_pure,Result.andThen_ok,List.map_toArray,List.map_cons,List.map_nil,hs,hx,hr];exact h v' w' h2 h3 h4
theorem C8 {P:Program} (w:World) {ops:Array Oper} {rest:List Oper} {o:Oper} {a:Act} {Q:Exit→Act→World→Prop} (hgd:o.guard=none) (s x:Operand) (t:TypeId)
  (ho:o.op=.call { callee:=.builtin .append,args:=#[s,x],argTypes:=#[t,t] })
  (base:Nat) (e:TypeId) (i:TypeInfo) (z:Value) (size bytes:Nat) (ht:P.underlying t=some (.slice e)) (hi:P.info? e=some i) (hz:i.zero=some z)
  (hsize:i.size=size) (hby:i.bytes=bytes) (hzs:z.cells.size=size) (hsz:0 < size)
  (v:Value) (n:Nat) (xs:List Value) (hs:a.eval s=v) (hown:w.ownsRow base e size v n xs)
  (ad:Option Addr) (m c:Nat) (news:List Value) (hx:a.eval x=.slice ad m c) (hl:news.length=m*size) (hnews:0 < m→∃d,ad=some d∧∀j u,news[j]?=some u→w.cell? (d.add j)=some u) (h1:∀u∈news,u.oneCell'=true)
  (h63:n+m≤maxLen) (hbytes:(n+m)*bytes≤140737488355328) (hbase:base≤w.heap.size)
  (h:∀v' w',w'.ownsRow base e size v' (n+m) (xs++news)→w.grownBy w' v.ownBlock→(∀g,v'.ownBlock=some g→v.ownBlock=some g∨g=w.heap.size)→wpList P ops Q rest (a.put o.dst v') w'):wpList P ops Q (o::rest) a w :=
 wpList_plain hgd fun _ hK=>jT w s x t ho base e i z size bytes ht hi hz hsize hby hzs hsz v n xs hs hown ad m c news hx hl hnews h1 h63 hbytes hbase fun v' w' h2 h3 h4=>hK _ _ (h v' w' h2 h3 h4)
def I5 (l:List FrR):List Val:=l.flatMap fun f=>f.loc++f.stk
theorem eA (l:List FrR):D5 (l.map FrR.abs)=I5 l:=by
 unfold D5 I5;rw[List.flatMap_map];rfl
theorem oJ (l:List FrR) (k:Nat) (h:∀f,f∈l→f.loc.length≤k∧f.stk.length≤k):(I5 l).length≤l.length*(2*k):=by
 induction l with
 | nil=>simp [I5]
 | cons f l ih =>
  have h1:=ih fun x hx=>h x (by simp [hx])
  have h2:=h f Q9;unfold I5 at h1 ⊢;simp only[List.flatMap_cons,List.length_append,List.length_cons];rw[Nat.add_mul];omega
def eQ (l:List Val) (w:World) (e:Ending) (w':World):Prop:=∃v,e=.returned v∧w'.ownsRow w.heap.size 73 2 v l.length (A5 l)∧Below w.heap.size w w'
theorem X2 {w W w':World} {v:Value} {e size n:Nat} {xs:List Value} (hB:Below w.heap.size w W) (ho:W.ownsRow w.heap.size e size v n xs) (hg:W.grownBy w' v.ownBlock):Below w.heap.size w w' :=
 ⟨hg.os.trans hB.os,hg.tape.trans hB.tape,hg.output.trans hB.output,Nat.le_trans hB.size hg.size,fun k hk=>(hg.block k (Nat.lt_of_lt_of_le hk hB.size) (fun e=>by have:=(ho.lt k e.symm).1;omega)).trans (hB.block k hk)⟩
theorem Row.src {w W:World} {own:Own} {t:Tag} {v:Value} {l:List Val} {a:Option Addr} {c:Nat} (h:Row w own t 73 2 v l.length (A5 l)) (hv:v=.slice a l.length c) (hB:Below w.heap.size w W):0 < l.length→∃d,a=some d∧∀j u,(A5 l)[j]?=some u→W.cell? (d.add j)=some u:=fun h0=>by
 obtain⟨b,c',e,_,hb⟩:=h.1.form h0;have h1:=h.1;rw[e] at hv h1
 cases hv;refine⟨_,rfl,fun j u hu=>?_⟩;have hj:=(List.getElem?_eq_some_iff.1 hu).1;rw[K1] at hj;rw[X1,hB.cell (p:=⟨b,j,none⟩) hb,h1.cellAt j hj];exact hu
theorem jU (a b:Value) (n:Nat):(Builtin.zeroCells #[a,b] n).size=n*2:=by simp [Builtin.zeroCells]
def pM (w:World) (e:Ending) (w':World):Prop:=∃v,e=.returned v∧w'.ownsRow w.heap.size 73 2 v 0 []∧Below w.heap.size w w'
theorem a4b (w:World):Calls Tryz.prog 145 #[.slice none 0 0,.int .i64 0] w fun e w'=>pM w e w':=by
 go_enter Tryz.func145,Tryz.ntmps145;go_wp2_with fail;go_ret;exact⟨_,rfl,World.ownsRow_nil _ _ _ _,Below.refl _ _⟩
theorem a4c (n:Nat) (h0:0 < n) (hn:n≤4000000) (w:World):Calls Tryz.prog 145 #[.slice none 0 0,.int .i64 (n:Int)] w fun e w'=>pM w e w':=by
 obtain⟨i101,hi,hz,hsz,hby⟩:=info_parts Z7;have hr:∀W:World,(Builtin.append_ #[45,3] 45 #[.slice none 0 0,.int .i64 (n:Int)]).run Tryz.prog W=_:=fun W=>Go.Lib.run_append_nil_zeros W 45 3 45 73 i101 _ .i64 .i64 Tryz.underlying45 Tryz.underlying3 hi hz n h0 (by rw [hsz];decide) Q8 (by rw [hby];omega)
 have HR:=hid hr;clear hr hi hz hsz hby;go_enter Tryz.func145,Tryz.ntmps145;go_wp2_with (at_builtin;go_must (refine Go.Lib.wpList_append_run _ rfl (.tmp 20) (.tmp 21) 45 3 rfl (.slice none 0 0) (.int .i64 (n:Int)) rfl rfl _ _ (HR.out _) ?_))
 go_ret;have h1:=grownCap_ge w n 0 73;refine⟨_,rfl,World.ownsRow.drew (World.ownsRow_made w _ _ (Nat.le_refl _) (grownCap_le_maxLen w n 0 73 Q0) ?_),Below.drew (Below.alloc (Below.refl _ _) (Nat.le_refl _) _)⟩;rw[Array.size_append,jU,jU];omega
theorem wD:(Tryz.prog.info? 45).map (fun i=>(i.zero,i.size,i.bytes))=some (some (.slice none 0 0),1,24):=by kernel_rfl
def T5 (l:List FrR):List Value:=l.flatMap fun f=>[f.lv,f.sv]
theorem dG (l:List FrR):(T5 l).length=l.length*2:=by
 induction l with
 | nil=>rfl
 | cons f l ih=>unfold T5 at ih ⊢;simp only [List.flatMap_cons,List.length_append,List.length_cons,List.length_nil];omega
theorem a0n {l:List FrR} {i:Nat} {f:FrR} (h:l[i]?=some f):T5 (l.take (i+1))=T5 (l.take i)++[f.lv,f.sv]:=by
 have e:l.take (i+1)=l.take i++[f]:=by rw [List.take_add_one,h];rfl
 rw[e];simp[T5]
def a3y (l:List FrR) (w:World) (e:Ending) (w':World):Prop:=∃v,e=.returned v∧w'.ownsRow w.heap.size 45 1 v (l.length*2) (T5 l)∧Below w.heap.size w w'
theorem lV {own:Own} {mb:Nat} {g:PgR} {R:McR} {w:World} (h:A3 w own mb g R) (hn:R.frs.length≤1000) :
  Calls Tryz.prog 125 #[.pointer (some ⟨mb,3,none⟩)] w fun e w'=>a3y R.frs w e w':=by
 have c3:=h.c3;obtain⟨ca,cc,hcv⟩:=C6 h.called;rw[hcv] at c3;have hmb:mb < w.heap.size:=h.lt mb _ h.me;obtain⟨i97,hi,hz,hsz,hby⟩:=info_parts wD;have HI:=hid hi;have HZ:=hid hz;have HSZ:=hid hsz;have HBY:=hid hby;have HH:=hid h;have HCV:=hid hcv;clear h hcv hi hz hsz hby;go_enter Tryz.func125,Tryz.ntmps125;go_wp2_with fail;go_loopw [3,11] (fun vl vi wr=>∃i:Nat,i≤R.frs.length∧vi=.int .i64 i∧wr.ownsRow w.heap.size 45 1 vl (i*2) (T5 (R.frs.take i))∧Below w.heap.size w wr) (fun _ vi _=>R.frs.length - (intOf vi).toNat)
 case atStart=>exact ⟨0,Nat.zero_le _,rfl,World.ownsRow_nil _ _ _ _,Below.refl _ _⟩
 case round =>
  obtain⟨i,hi,rfl,hrow,hbel⟩:=hrel;have HBEL:=hid hbel;have HROW:=hid hrow;by_cases hlt:i < R.frs.length
  ·obtain ⟨f,hf⟩:∃f,R.frs[i]?=some f:=⟨_,List.getElem?_eq_getElem hlt⟩
   obtain⟨cb,cc',e,_,hcb⟩:=HH.out.called.1.form Q8;have hcr:=HH.out.called.1;rw[HCV.out] at e
   cases e;rw[HCV.out] at hcr;have hcell:∀j,j < 4→wr.cell? ⟨cb,i*4+j,none⟩=f.cells[j]?:=fun j hj=>by
    rw[hbel.cell (p:=⟨cb,_,none⟩) hcb,hcr.cellAt _ Q8];exact C3 FrR.cells_len hf hj
   obtain⟨la,lc,hlv⟩:=C6 (HH.out.loc i f hf);obtain⟨sa,sc,hsv⟩:=C6 (HH.out.stk i f hf);have k0:wr.cell? ⟨cb,i*4,none⟩=some (.int .i64 f.fn):=hcell 0 Q8;have k1:wr.cell? ⟨cb,i*4+1,none⟩=some (.int .i64 f.pc):=hcell 1 Q8;have k2:wr.cell? ⟨cb,i*4+2,none⟩=some f.lv:=hcell 2 Q8;have k3:wr.cell? ⟨cb,i*4+3,none⟩=some f.sv:=hcell 3 Q8;rw[hlv] at k2;rw[hsv] at k3;have hlw:cb < wr.heap.size:=Nat.lt_of_lt_of_le hcb hbel.size
   have HTK:=hid (a0n hf);have HLV:=hid hlv;have HSV:=hid hsv;clear hcell hcr hrow hbel hf hlv hsv;have hwz:w.heap.size≤wr.heap.size:=HBEL.out.size;go_wp2_with (at_builtin;go_must (refine wpList_append_lies _ rfl (.tmp 15) (.tmp 20) 160 rfl w.heap.size 45 i97 _ 1 24 Tryz.underlying160 HI.out HZ.out HSZ.out HBY.out rfl Q7 _ (i*2) (T5 (R.frs.take i)) rfl ((HROW.out.alloc _).alloc _) _ 2 2 [.slice la f.loc.length lc,.slice sa f.stk.length sc] rfl rfl (World.news_of_block (cs:=#[.slice la f.loc.length lc,.slice sa f.stk.length sc]) (t:=45) (fr:=(0,0)) (D8 Q9)) (by intro u hu;simp at hu;rcases hu with rfl | rfl <;> rfl) Q8 Q0 Q8 Q5 _ rfl ?_))
   intro g1 cap1 w1 hown1 hgrow1 _ _;have hB1:=X2 (Below.alloc (Below.alloc HBEL.out HBEL.out.size _) Q5 _) ((HROW.out.alloc _).alloc _) hgrow1;have HB1:=hid hB1;have HO1:=hid hown1;clear hB1 hown1 hgrow1 k0 k1 k2 k3;go_wp2_with fail;go_roundw
   case rel=>exact ⟨i+1,by omega,by go_num,by
    rw[HTK.out,HLV.out,HSV.out,show (i+1)*2=i*2+2 by omega];exact HO1.out,HB1.out⟩
   case measure=>simp [intOf];omega
  ·obtain rfl:i=R.frs.length:=by omega
   rw[List.take_length] at HROW;clear hbel hrow;go_wp2_with fail;go_ret;exact⟨_,rfl,HROW.out,HBEL.out⟩
def a2U (W:World) (a:Option Addr) (ls:List (Value × List Val)):Prop :=
 0 < ls.length→∃b,a=some ⟨b,0,none⟩∧b < W.heap.size∧∀(i:Nat) (p:Value × List Val),ls[i]?=some p→W.cell? ⟨b,i,none⟩=some p.1 ∧
  ∃la lc,p.1=.slice la p.2.length lc∧(0 < p.2.length→∃d,la=some ⟨d,0,none⟩∧d < W.heap.size∧∀(j:Nat) (u:Value),(A5 p.2)[j]?=some u→W.cell? ⟨d,j,none⟩=some u)
def gV (ls:List (Value × List Val)):List Val:=ls.flatMap (·.2)
theorem uD {ls:List (Value × List Val)} {i:Nat} {p:Value × List Val} (h:ls[i]?=some p):gV (ls.take (i+1))=gV (ls.take i)++p.2:=by
 have e:ls.take (i+1)=ls.take i++[p]:=by rw [List.take_add_one,h];rfl
 rw[e];simp[gV]
theorem a5S (ls:List (Value × List Val)) (h:∀p,p∈ls→p.2.length≤1000):(gV ls).length≤ls.length*1000:=by
 induction ls with
 | nil=>simp [gV]
 | cons p l ih =>
  have h1:=ih fun x hx=>h x (by simp [hx])
  have h2:=h p Q9;unfold gV at h1 ⊢;simp only[List.flatMap_cons,List.length_append,List.length_cons];rw[Nat.add_mul];omega
theorem a6j (n:Nat) (hn:n≤4000000) (w:World):Calls Tryz.prog 145 #[.slice none 0 0,.int .i64 (n:Int)] w fun e w'=>pM w e w':=by
 rcases Nat.eq_zero_or_pos n with rfl | h
 ·exact a4b w
 ·exact a4c n h hn w
theorem a1m (a:Option Addr) (c:Nat) (ls:List (Value × List Val)) (w:World) (hn:ls.length≤2000) (hl:∀p,p∈ls→p.2.length≤1000) (hs:a2U w a ls) :
  Calls Tryz.prog 124 #[.slice a ls.length c] w fun e w'=>eQ (gV ls) w e w':=by
 obtain⟨i101,hi,hz,hsz,hby⟩:=info_parts Z7;have HI:=hid hi;have HZ:=hid hz;have HSZ:=hid hsz;have HBY:=hid hby;have HS:=hid hs;have HL:=hid hl;have HT:Hid (∀i,(gV (ls.take i)).length≤2000000):=fun i=>by
  have:=a5S (ls.take i) fun p hp=>hl p (List.mem_of_mem_take hp)
  rw[List.length_take] at this;have:min i ls.length*1000≤2000*1000:=Nat.mul_le_mul_right _ Q8;omega
 clear hi hz hsz hby hs hl;go_enter Tryz.func124,Tryz.ntmps124;go_wp2_with fail;go_loopw [3,11] (fun vs vi wr=>∃i:Nat,i≤ls.length∧vi=.int .i64 i∧vs=.int .i64 ((gV (ls.take i)).length:Int)∧Below w.heap.size w wr) (fun _ vi _=>ls.length - (intOf vi).toNat)
 case atStart=>exact ⟨0,Nat.zero_le _,rfl,rfl,Below.refl _ _⟩
 case round =>
  obtain⟨i,hi,rfl,rfl,hbel⟩:=hrel;by_cases hlt:i < ls.length
  ·obtain ⟨p,hp⟩:∃p,ls[i]?=some p:=⟨_,List.getElem?_eq_getElem hlt⟩
   obtain⟨b,rfl,hb,hcs⟩:=HS.out Q8;obtain⟨k0,la,lc,hv,_⟩:=hcs i p hp;rw[hv,← hbel.cell (p:=⟨b,i,none⟩) hb] at k0;have hbw:b < wr.heap.size:=Nat.lt_of_lt_of_le hb hbel.size;have HBEL:=hid hbel;have ht:=HT.out i;have ht1:=HT.out (i+1);have HTK:=hid (uD hp);have hpl:=HL.out p (List.mem_of_getElem? hp);clear hcs hv hp hbel;generalize hq:(gV (ls.take i)).length=q at *
   go_wp2_with fail;go_roundw
   case rel=>exact ⟨i+1,by omega,by go_num,by rw [HTK.out,List.length_append,hq];go_num,HBEL.out⟩
   case measure=>simp [intOf];omega
  ·obtain rfl:i=ls.length:=by omega
   have ht:=HT.out ls.length;rw[List.take_length] at ht ⊢;generalize hq:(gV ls).length=q at *
   have HBEL0:=hid hbel;clear hbel;go_wp2_with fail;refine (a6j q Q8 _).mono ?_;rintro e w1 ⟨v1,rfl,hown1,hb1⟩;have HO1:=hid (C5 hown1 HBEL0.out.size);have HB1:=hid (A1 hb1 HBEL0.out);clear hown1 hb1;go_wp2_with fail;go_loopw [6,27] (fun vl vi wr=>∃i:Nat,i≤ls.length∧vi=.int .i64 i∧wr.ownsRow w.heap.size 73 2 vl (gV (ls.take i)).length (A5 (gV (ls.take i)))∧Below w.heap.size w wr) (fun _ vi _=>ls.length - (intOf vi).toNat)
   case atStart=>exact ⟨0,Nat.zero_le _,rfl,HO1.out,HB1.out⟩
   case round =>
    obtain⟨i,hi,rfl,hrow,hbel⟩:=hrel;have HBEL:=hid hbel;have HROW:=hid hrow;by_cases hlt:i < ls.length
    ·obtain ⟨p,hp⟩:∃p,ls[i]?=some p:=⟨_,List.getElem?_eq_getElem hlt⟩
     obtain⟨b,rfl,hb,hcs⟩:=HS.out Q8;obtain⟨k0,la,lc,hv,hsrc⟩:=hcs i p hp;rw[hv,← hbel.cell (p:=⟨b,i,none⟩) hb] at k0;have hbw:b < wr.heap.size:=Nat.lt_of_lt_of_le hb hbel.size;have ht:=HT.out i;have HTK:=hid (uD hp);have hpl:=HL.out p (List.mem_of_getElem? hp);have HSRC:Hid (0 < p.2.length→∃d,la=some d∧∀j u,(A5 p.2)[j]?=some u→wr.cell? (d.add j)=some u):=fun h0=>by
      obtain⟨d,e1,e2,e3⟩:=hsrc h0;refine⟨_,e1,fun j u hu=>?_⟩;rw[X1,hbel.cell (p:=⟨d,j,none⟩) e2];exact e3 j u hu
     have hwz:w.heap.size≤wr.heap.size:=hbel.size;clear hcs hv hp hsrc hbel hrow;go_wp2_with (at_builtin;go_must (refine C8 _ rfl (.tmp 31) (.tmp 32) 45 rfl w.heap.size 73 i101 _ 2 16 Tryz.underlying45 HI.out HZ.out HSZ.out HBY.out rfl Q7 _ (gV (ls.take i)).length (A5 (gV (ls.take i))) rfl HROW.out la p.2.length lc (A5 p.2) rfl (K1 _) HSRC.out (bQ _) Q0 Q8 Q8 ?_))
     intro v2 w2 hown2 hgrow2 _;have HB2:=hid (X2 HBEL.out HROW.out hgrow2);have HO2:=hid hown2;clear hown2 hgrow2 k0;go_wp2_with fail;go_roundw
     case rel=>exact ⟨i+1,by omega,by go_num,by
      rw[HTK.out,V5,List.length_append];exact HO2.out,HB2.out⟩
     case measure=>simp [intOf];omega
    ·obtain rfl:i=ls.length:=by omega
     rw[List.take_length] at HROW;clear hbel hrow;go_wp2_with fail;go_ret;exact⟨_,rfl,HROW.out,HBEL.out⟩
def bJ (l:List FrR):List (Value × List Val):=l.flatMap fun f=>[(f.lv,f.loc),(f.sv,f.stk)]
theorem kH (l:List FrR):(bJ l).length=l.length*2:=by
 induction l with
 | nil=>rfl
 | cons f l ih=>unfold bJ at ih ⊢;simp only [List.flatMap_cons,List.length_append,List.length_cons,List.length_nil];omega
theorem a1K (l:List FrR):gV (bJ l)=I5 l:=by
 induction l with
 | nil=>rfl
 | cons f l ih=>unfold bJ gV I5 at ih ⊢;simp only [List.flatMap_cons,List.flatMap_append,List.flatMap_nil,List.append_nil,ih]
theorem a1L (l:List FrR):T5 l=(bJ l).map (·.1):=by
 induction l with
 | nil=>rfl
 | cons f l ih=>unfold bJ T5 at ih ⊢;simp only [List.flatMap_cons,List.map_append,List.map_cons,List.map_nil,ih]
theorem rP {l:List FrR} {p:Value × List Val} (h:p∈bJ l):∃(i:Nat) (f:FrR),l[i]?=some f∧(p=(f.lv,f.loc)∨p=(f.sv,f.stk)):=by
 unfold bJ at h;obtain⟨f,hf,hp⟩:=List.mem_flatMap.1 h;obtain⟨i,hi⟩:=List.mem_iff_getElem?.1 hf;refine⟨i,f,hi,?_⟩;simpa using hp
theorem a3p {w:World} {own:Own} {t:Tag} {v:Value} {l:List Val} (h:Row w own t 73 2 v l.length (A5 l)) {W:World} (hB:Below w.heap.size w W):∃la lc,v=.slice la l.length lc∧(0 < l.length→∃d,la=some ⟨d,0,none⟩∧d < W.heap.size∧∀(j:Nat) (u:Value),(A5 l)[j]?=some u→W.cell? ⟨d,j,none⟩=some u):=by
 obtain⟨la,lc,hv⟩:=C6 h;refine⟨la,lc,hv,fun h0=>?_⟩;obtain⟨b,c',e,_,hb⟩:=h.1.form h0;have h1:=h.1;rw[e] at hv h1
 cases hv;refine⟨b,rfl,Nat.lt_of_lt_of_le hb hB.size,fun j u hu=>?_⟩;have hj:=(List.getElem?_eq_some_iff.1 hu).1;rw[K1] at hj;rw[hB.cell (p:=⟨b,j,none⟩) hb,h1.cellAt j hj];exact hu
theorem oK {own:Own} {mb:Nat} {g:PgR} {R:McR} {w:World} (h:A3 w own mb g R) (hn:R.frs.length≤1000) (hf:∀f,f∈R.frs→f.loc.length≤1000∧f.stk.length≤1000) :
  Calls Tryz.prog 92 #[.pointer (some ⟨mb,3,none⟩)] w fun e w'=>eQ (I5 R.frs) w e w':=by
 have HH:=hid h;have HF:=hid hf;clear h hf;go_enter Tryz.func92,Tryz.ntmps92;go_wp2_with fail;refine (lV HH.out hn).mono ?_;rintro e w1 ⟨v,rfl,hown,hb⟩;obtain⟨la,lc,rfl⟩:∃la lc,v=.slice la (bJ R.frs).length lc:=by
  rw[kH];rcases hown.2 with ⟨h1,h2⟩ | ⟨g,cap,cur,h1,_⟩
  ·exact ⟨none,0,by rw [h1,h2]⟩
  ·exact ⟨_,_,h1⟩
 have HL:Hid (a2U w1 la (bJ R.frs)):=fun h0=>by
  have hown:=hown;rw[← kH] at hown;obtain⟨b,c',e,_,hbl⟩:=hown.form h0
  cases e;refine⟨b,rfl,hbl,fun i p hp=>?_⟩;have hi:=(List.getElem?_eq_some_iff.1 hp).1;refine⟨?_,?_⟩
  ·rw [hown.cellAt i Q8,a1L,List.getElem?_map,hp]
   rfl
  ·obtain ⟨k,f,hk,he⟩:=rP (List.mem_of_getElem? hp)
   rcases he with rfl | rfl
   ·exact a3p (HH.out.loc k f hk) hb
   ·exact a3p (HH.out.stk k f hk) hb
 have HB:=hid hb;have hl2:(bJ R.frs).length≤2000:=by rw [kH];omega
 have HM:Hid (∀p,p∈bJ R.frs→p.2.length≤1000):=fun p hp=>by
  obtain⟨k,f,hk,he⟩:=rP hp;have:=HF.out f (List.mem_of_getElem? hk);rcases he with rfl | rfl
  ·exact this.1
  ·exact this.2
 have HC:=hid (a1K R.frs);clear hown hb;generalize bJ R.frs=ls at *
 go_wp2_with fail;refine (a1m la lc ls w1 hl2 HM.out HL.out).mono ?_;rintro e w2 ⟨v2,rfl,hown2,hb2⟩;rw[HC.out] at hown2;have HO2:=hid (C5 hown2 HB.out.size);have HB2:=hid (A1 hb2 HB.out);clear hown2 hb2;go_wp2_with fail;go_ret;exact⟨_,rfl,HO2.out,HB2.out⟩
end Go.Proofs.YtbkmgoffiigdbabGreatDoor
