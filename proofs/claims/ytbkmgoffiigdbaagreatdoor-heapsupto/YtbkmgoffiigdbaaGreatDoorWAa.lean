import Derived.Test.YtbkmgoffiigdbaaGreatDoorWEj
import Derived.Test.YtbkmgoffiigdbaaGreatDoorWFa
namespace Go.Proofs.YtbkmgoffiigdbaaGreatDoor

open Go.RowKit Go.Sort
open Go.RowKit Go.Sort
open Go.RowKit Go.Sort
open Go.RowKit Go.Sort
open Go.RowKit Go.Sort
open Go.RowKit Go.Sort
open Go.RowKit Go.Sort
open Go.RowKit Go.Sort
open Go.RowKit Go.Sort
open Go.RowKit Go.Sort
open Go.RowKit Go.Sort
end Go.Proofs.YtbkmgoffiigdbaaGreatDoor
namespace Go.Proofs.YtbkmgoffiigdbaaGreatDoor
open Go.RowKit Go.Sort
section
variable {obs:List Ob}
theorem oT : ∀(n i:Nat) (met:List Nat) (k:Nat),(G7 obs n i met).length<=n+i->G7 obs (n+k) i met=G7 obs n i met
 | 0,i,met,k,h=>by
  rw[G7] at h ⊢
  cases k with
  | zero=>rfl
  | succ k =>
   rw[Nat.zero_add,G7,List.getElem?_eq_none_iff.2 R4]
 | n+1,i,met,k,h=>by
  have e:n+1+k=(n+k)+1:=by omega
  rw[G7] at h;rw[e,G7,G7]
  cases hi:met[i]? with
  | none=>rfl
  | some j =>
   rw[hi] at h;simp only at h ⊢
   cases ho:obs[j]? with
   | none=>rfl
   | some o =>
    rw[ho] at h;simp only at h ⊢;exact oT n (i+1) _ k R4
theorem zU {n m:Nat} {i:Nat} {met:List Nat} (hnm:n<=m) (h:(G7 obs n i met).length<=n+i):G7 obs m i met=G7 obs n i met:=by
 obtain⟨k,rfl⟩:=Nat.exists_eq_add_of_le hnm;exact oT n i met k h
theorem qL {r:Nat->Nat} {obt:List Ob} {l:List Val} {A:List Nat} (hA:eK obs l A) (hlen:A.length<=obt.length) (hr:rN r A) (hmv:a1Y r A obs obt) (hsub:∀n j,j∈G7 obs n 0 (C1 [] l)->j∈A) (hnd:∀n,(G7 obs n 0 (C1 [] l)).Nodup):K6 obt (l.map (ren r))=(K6 obs l).map r:=by
 unfold K6;have h0:∀j,j∈C1 [] l->j∈A:=fun j hj=>by
  rcases (V8 l [] j).1 hj with h | ⟨v,hv,h2,rfl⟩
  ·cases h
  ·exact hA.roots v hv h2
 have e:=eB hr l [] R5 fun v hv h2=>hA.roots v hv h2
 rw[show ([]:List Nat).map r=[] from rfl] at e;rw[e,mZ hr hmv hA.shut _ _ _ h0];congr 1
 have hb:∀n,(G7 obs n 0 (C1 [] l)).length<=A.length:=fun n=>eC (hnd n) (hsub n)
 have xa:A.length<=obs.length:=L1 hA.nodup hA.lt;rcases Nat.le_total obt.length obs.length with h | h
 ·exact (zU h (by have:=hb obt.length;omega)).symm
 ·exact zU h (by have:=hb obs.length;omega)
theorem yM (hw:fU obs) {l:List Val} (hl:∀v,v∈l->v.1=2->v.2.toNat < obs.length):∀n,(G7 obs n 0 (C1 [] l)).Nodup:=by
 intro n
 suffices ∀(n i:Nat) (met:List Nat),cI obs i met->(G7 obs n i met).Nodup from this n 0 _ ⟨Q0 _ _ List.nodup_nil,bA R5 hl,fun k j hk _=>by omega⟩
 intro n
 induction n with
 | zero=>intro i met h;exact h.nodup
 | succ n ih =>
  intro i met h;rw[G7]
  cases hi:met[i]? with
  | none=>exact h.nodup
  | some j =>
   obtain⟨o,ho⟩:∃o,obs[j]?=some o:=⟨_,L1b (h.lt j (L2a hi))⟩
   simp only[ho];exact ih _ _ (h.next hw hi ho)
end
section
variable {i:Nat} {k l:List Val} {sl:List Int} {v:Val}
def sig (sl:List Int) (i:Nat):Nat:=(sl.getD i (-1)).toNat
def I0 (sl:List Int) (i:Nat):Prop:=∃x:Int,sl[i]?=some x/\0<=x
def VS (sl:List Int) (v:Val):Prop:=v.1=2->0<=v.2/\I0 sl v.2.toNat
structure C8 (sl:List Int) (s t:McA):Prop where
 st:t.st=s.st
 out:t.out=s.out
 dr:t.dr=s.dr
 frs:t.frs=s.frs.map (G4 (sig sl))
 len:sl.length=s.obs.length
 bd:∀(i:Nat) (x:Int),sl[i]?=some x->x = -1\/(0<=x/\x < t.obs.length)
 inj:∀(i j:Nat) (x:Int),0<=x->sl[i]?=some x->sl[j]?=some x->i=j
 obs:∀(i:Nat) (o:Ob),s.obs[i]?=some o->I0 sl i->t.obs[sig sl i]?=some (o.1,o.2.map (ren (sig sl)))
 free:∀(k:Nat) (o:Ob),t.obs[k]?=some o->(∀i:Nat,sl[i]?≠some (k:Int))->o=(0,[])
 vals:∀v,v∈C4 s.frs->VS sl v
 orefs:∀(i:Nat) (o:Ob),s.obs[i]?=some o->I0 sl i->∀v,v∈o.2->VS sl v
 within:fU s.obs
 kinds:∀o,o∈s.obs->o.1≠0
theorem bE {x:Int} (h:sl[i]?=some x):sig sl i=x.toNat:=by unfold sig;rw [List.getD_eq_getElem?_getD,h];rfl
theorem I0.lt (h:I0 sl i):i < sl.length:=by
 obtain⟨x,hx,_⟩:=h;exact (L1a.1 hx).1
variable {sl:List Int} {s t:McA}
theorem C8.injOn (h:C8 sl s t) {A:List Nat} (hA:∀j,j∈A->I0 sl j):rN (sig sl) A:=fun i j hi hj e=>by
 obtain⟨x,hx,x0⟩:=hA i hi;obtain⟨y,hy,y0⟩:=hA j hj;rw[bE hx,bE hy] at e;obtain rfl:x=y:=by omega
 exact h.inj i j x x0 hx hy
theorem C8.inj2 (h:C8 sl s t) {i j:Nat} (hi:I0 sl i) (hj:I0 sl j) (e:sig sl i=sig sl j):i=j :=
 h.injOn (A:=[i,j]) (fun k hk=>by simp at hk;rcases hk with rfl | rfl;exact hi;exact hj) i j R5 R5 e
theorem C8.get (h:C8 sl s t) {i:Nat} (hi:I0 sl i):∃o,s.obs[i]?=some o/\t.obs[sig sl i]?=some (o.1,o.2.map (ren (sig sl))):=by
 have hl:=hi.lt;rw[h.len] at hl;exact⟨_,L1b hl,h.obs i _ (L1b hl) hi⟩
theorem C8.roots (h:C8 sl s t):∀v,v∈C4 s.frs->v.1=2->v.2.toNat < s.obs.length:=fun v hv h2=>by
 rw[<- h.len];exact (h.vals v hv h2).2.lt
theorem C8.reached (h:C8 sl s t):eK s.obs (C4 s.frs) (A1 s):=bI h.within h.roots
theorem C8.lead (h:C8 sl s t) {j:Nat} (hj:fR s.obs (C4 s.frs) j):I0 sl j:=by
 induction hj with
 | root v hv h2=>exact (h.vals v hv h2).2
 | field j o v _ ho _ hv h2 ih=>exact (h.orefs j o ho ih v hv h2).2
theorem C8.slotted (h:C8 sl s t):∀j,j∈A1 s->I0 sl j:=fun j hj =>
 h.lead (cZ _ 0 _ (cL R5 fun v hv h2=>fR.root v hv h2) j hj)
theorem C8.moved (h:C8 sl s t) {A:List Nat} (hA:∀j,j∈A->I0 sl j):a1Y (sig sl) A s.obs t.obs:=fun j hj=>by
 obtain⟨o,ho,hp⟩:=h.get (hA j hj);exact⟨o,_,ho,hp,rfl,fun _=>rfl⟩
theorem C8.len_le (h:C8 sl s t) {A:List Nat} (hn:A.Nodup) (hA:∀j,j∈A->I0 sl j):A.length<=t.obs.length:=by
 have xa:(A.map (sig sl)).Nodup:=by
  rw[List.nodup_iff_pairwise_ne] at hn ⊢;rw[List.pairwise_map];refine List.Pairwise.imp_of_mem ?_ hn;intro a b ha hb hne e;exact hne (h.injOn hA a b ha hb e)
 have:=L1 (n:=t.obs.length) xa fun j hj=>by
  obtain⟨i,hi,rfl⟩:=List.mem_map.1 hj;obtain⟨o,_,hp⟩:=h.get (hA i hi);exact (L1a.1 hp).1
 rwa [List.length_map] at this
theorem C8.alive (h:C8 sl s t):A1 t=(A1 s).map (sig sl):=by
 have hr:=h.reached;have e:A1 t=K6 t.obs ((C4 s.frs).map (ren (sig sl))):=by unfold A1;rw [h.frs,uF]
 rw[e];exact qL hr (h.len_le hr.nodup h.slotted) (h.injOn h.slotted) (h.moved h.slotted) (fun n j hj=>hr.of_lead (cZ n 0 _ (cL R5 fun v hv h2=>fR.root v hv h2) j hj)) (yM h.within h.roots)
def VSs (sl:List Int) (l:List Val):Prop:=∀v,v∈l->VS sl v
theorem VSs.app (h:VSs sl l) (h':VSs sl k):VSs sl (l++k):=fun v hv=>by
 rcases List.mem_append.1 hv with hv | hv
 ·exact h v hv
 ·exact h' v hv
theorem VSs.left (h:VSs sl (l++k)):VSs sl l:=fun v hv=>h v (by simp [hv])
theorem VSs.right (h:VSs sl (l++k)):VSs sl k:=fun v hv=>h v (by simp [hv])
theorem VSs.one (h:VS sl v):VSs sl [v]:=fun u hu=>by rw [List.mem_singleton] at hu;subst hu;exact h
theorem VSs.plain (h:v.1≠2):VSs sl [v]:=VSs.one fun h2=>absurd h2 h
theorem VSs.nil:VSs sl []:=fun v hv=>by simp at hv
theorem VSs.getD (h:VSs sl l) (i:Nat):VSs sl [l.getD i (0,0)]:=VSs.one fun h2=>by
 rw[List.getD_eq_getElem?_getD] at h2 ⊢
 cases hx:l[i]? with
 | none=>rw [hx] at h2;simp at h2
 | some x=>rw [hx] at h2;exact h x (L2a hx) h2
theorem VSs.set (h:VSs sl l) (i:Nat) {x:Val} (hx:VS sl x):VSs sl (l.set i x):=fun v hv=>by
 rcases List.mem_or_eq_of_mem_set hv with hv | rfl
 ·exact h v hv
 ·exact hx
theorem VSs.nils (n:Nat):VSs sl (List.replicate n (0,0)):=fun v hv h2=>by
 rw[(List.mem_replicate.1 hv).2] at h2;simp at h2
theorem C8.frame (h:C8 sl s t) {f:FrA} (hf:f∈s.frs):VSs sl (f.loc++f.stk):=fun v hv=>h.vals v (F9.2 ⟨f,hf,hv⟩)
theorem C8.put (h:C8 sl s t) (st:Int) (out:List Int) (fl:List FrA) (dr:List Int) (hin:∀f,f∈fl->VSs sl (f.loc++f.stk)):C8 sl ⟨st,out,fl,s.obs,dr⟩ ⟨st,out,fl.map (G4 (sig sl)),t.obs,dr⟩ :=
 ⟨rfl,rfl,rfl,rfl,h.len,h.bd,h.inj,h.obs,h.free,fun v hv=>by
  obtain⟨f,hf,hv⟩:=F9.1 hv;exact hin f hf v hv,h.orefs,h.within,h.kinds⟩
theorem C8.referred (h:C8 sl s t) {v:Val} (hv:VS sl v):A0 t.obs (ren (sig sl) v)=((A0 s.obs v).1,(A0 s.obs v).2.map (ren (sig sl))):=by
 by_cases h2:v.1=2
 ·obtain ⟨o,ho,hp⟩:=h.get (hv h2).2
  have e1:A0 s.obs v=o:=by unfold A0;rw [if_pos h2,List.getD,ho];rfl
  have e2:A0 t.obs (ren (sig sl) v)=(o.1,o.2.map (ren (sig sl))):=by
   unfold A0;rw[if_pos (by rw [I3];exact h2),iT h2,List.getD,hp];rfl
  rw[e1,e2]
 ·have e1:A0 s.obs v=(0,[]):=by unfold A0;rw [if_neg h2]
  have e2:A0 t.obs (ren (sig sl) v)=(0,[]):=by unfold A0;rw [if_neg (by rw [I3];exact h2)]
  rw[e1,e2];rfl
theorem C8.fields (h:C8 sl s t) {v:Val} (hv:VS sl v):VSs sl (A0 s.obs v).2:=by
 by_cases h2:v.1=2
 ·obtain ⟨o,ho,_⟩:=h.get (hv h2).2
  have e1:A0 s.obs v=o:=by unfold A0;rw [if_pos h2,List.getD,ho];rfl
  rw[e1];exact fun u hu=>h.orefs _ o ho (hv h2).2 u hu
 ·have e1:A0 s.obs v=(0,[]):=by unfold A0;rw [if_neg h2]
  rw[e1];exact VSs.nil
theorem C8.same (h:C8 sl s t) {x y:Val} (hx:VS sl x) (hy:VS sl y) :
  ((ren (sig sl) x).1 == (ren (sig sl) y).1 && (ren (sig sl) x).2 == (ren (sig sl) y).2)=(x.1 == y.1 && x.2 == y.2):=by
 rw[I3,I3];by_cases e:x.1=y.1
 ·by_cases h2:x.1=2
  ·have xa:y.1=2:=by rw [<- e];exact h2
   obtain⟨n1,s1⟩:=hx h2;obtain⟨n2,s2⟩:=hy xa;unfold ren;rw[if_pos h2,if_pos xa,e];congr 1
   rw[Bool.eq_iff_iff,beq_iff_eq,beq_iff_eq];constructor
   ·intro q
    have:=h.inj2 s1 s2 (by have:((sig sl x.2.toNat:Nat):Int)=((sig sl y.2.toNat:Nat):Int):=q;omega);omega
   ·intro q
    rw[q]
  ·rw [K4 h2,K4 (by rw [<- e];exact h2)]
 ·have e':(x.1 == y.1)=false:=by simpa using e
  rw[e',Bool.false_and,Bool.false_and]
theorem C8.strong (h:C8 sl s t) {v:Val} (hv:VS sl v):O7 t (ren (sig sl) v)=ren (sig sl) (O7 s v):=by
 unfold O7;rw[I3,h.alive];by_cases h2:v.1=2
 ·have hm:(ren (sig sl) v).2.toNat∈(A1 s).map (sig sl)↔v.2.toNat∈A1 s:=by
   rw[iT h2];constructor
   ·intro hm
    obtain⟨i,hi,e⟩:=List.mem_map.1 hm;have:=h.inj2 (h.slotted _ hi) (hv h2).2 e;rwa [<- this]
   ·intro hm
    exact List.mem_map.2 ⟨_,hm,rfl⟩
  by_cases ha:v.2.toNat∈A1 s
  ·rw [if_pos ⟨h2,hm.2 ha⟩,if_pos ⟨h2,ha⟩]
  ·rw [if_neg (fun c=>ha (hm.1 c.2)),if_neg (fun c=>ha c.2),Z7]
 ·rw [if_neg (fun c=>h2 c.1),if_neg (fun c=>h2 c.1),Z7]
end
end Go.Proofs.YtbkmgoffiigdbaaGreatDoor
